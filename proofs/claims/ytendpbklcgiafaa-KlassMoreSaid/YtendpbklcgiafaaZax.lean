/- The walks over klass's body and method, of whichever pass. -/
import Derived.Test.YtendpbklcgiafaaZaw
namespace Go.Proofs.Ytendpbklcgiafaa
set_option maxRecDepth 100000
open Go.RowKit

@[ext] structure BodyD where
  stack : Int
  locals : Int
  code : List UInt8
  traps : List TrapD
  maps : List MapD
def bodyRep (w : World) (Z : Nat → Prop) (cs : List Value) (v : BodyD) : Prop := ∃ uc ut um, cs = [.int .i64 v.stack, .int .i64 v.locals, uc, ut, um] ∧ bytesT.rep w Z [uc] v.code ∧ (rowT trapT).rep w Z [ut] v.traps ∧ (rowT mapD).rep w Z [um] v.maps
def bodyD : RepT BodyD where
  k := 5
  rep := bodyRep
  len h := by obtain ⟨_, _, _, rfl, _⟩ := h; rfl
  next h k hZ := by
    obtain ⟨uc, ut, um, rfl, h1, h2, h3⟩ := h
    exact ⟨uc, ut, um, rfl, bytesT.next h1 k hZ, (rowT trapT).next h2 k hZ, (rowT mapD).next h3 k hZ⟩
/-- What a reader goes over is blank. -/
def bodyBlank (cs : List Value) (v : BodyD) : Prop := cs = [.int .i64 v.stack, .int .i64 v.locals, .slice none 0 0, .slice none 0 0, .slice none 0 0] ∧ v.code = [] ∧ v.traps = [] ∧ v.maps = []
def bodyE (C : List Cst) : Enc BodyD := mapE (fun d => (d.stack, d.locals, d.code, d.traps, d.maps)) (seqE (kindE (upToC 64) 2) (fun _ => seqE (kindE (upToC 64) 2) (fun _ => seqE codeE (fun _ => seqE (rowE 255 (trapE C)) (fun _ => mapsE C)))))
theorem body_inj (a b : BodyD) (h : (a.stack, a.locals, a.code, a.traps, a.maps) = (b.stack, b.locals, b.code, b.traps, b.maps)) : a = b := by
  obtain ⟨h1, h2, h3, h4, h5⟩ : a.stack = b.stack ∧ a.locals = b.locals ∧ a.code = b.code ∧ a.traps = b.traps ∧ a.maps = b.maps := by simpa using h
  exact BodyD.ext h1 h2 h3 h4 h5
theorem Uniq.body (C : List Cst) (h : C.length ≤ 1024) : Uniq (bodyE C) :=
  ((Uniq.kind (fits_up 64 (by omega))).seq (fun _ => (Uniq.kind (fits_up 64 (by omega))).seq (fun _ => Uniq.code.seq (fun _ => ((Uniq.trap C h).row (by omega)).seq (fun _ => Uniq.maps C h))))).map body_inj
theorem Bd.code : Bd codeE 4100 := fun l x hx => by
  unfold codeE mapE seqE at hx
  simp only at hx
  rw [Option.bind_eq_some_iff] at hx
  obtain ⟨y, hy, hx⟩ := hx
  rw [Option.map_eq_some_iff] at hx
  obtain ⟨z, hz, rfl⟩ := hx
  have h1 := kind_len hy
  unfold kindE at hy
  split at hy
  · rename_i hp
    unfold codeN at hp
    have hl := of_decide_eq_true hp
    unfold rawE at hz
    split at hz
    · cases hz
      rw [List.length_append]
      omega
    · cases hz
  · cases hy
theorem Bd.trap (C : List Cst) : Bd (trapE C) 8 := (((Bd.kind _ 2).seq (fun _ => (Bd.kind _ 2).seq (fun _ => (Bd.kind _ 2).seq (fun _ => Bd.kind _ 2)))).map _).le (by omega)
theorem Bd.body (C : List Cst) : Bd (bodyE C) 105606 := (((Bd.kind _ 2).seq (fun _ => (Bd.kind _ 2).seq (fun _ => Bd.code.seq (fun _ => ((Bd.trap C).row 255).seq (fun _ => Bd.maps C))))).map _).le (by omega)

theorem trap_z : ∀ (w : World) (Z : Nat → Prop), trapT.rep w Z [.int .i64 0, .int .i64 0, .int .i64 0, .int .i64 0] ⟨0, 0, 0, 0⟩ := fun _ _ => rfl
theorem one_cell {α : Type} {R : RepT α} (hk : R.k = 1) {w : World} {Z : Nat → Prop} {cs : List Value} {v : α} (h : R.rep w Z cs v) : ∃ u, cs = [u] := by
  have hl := R.len h
  rw [hk] at hl
  match cs, hl with
  | [u], _ => exact ⟨u, rfl⟩

section
variable {c : Cx} {w : World} {g b off : Nat} {S : Nat → Prop} {N : Nat} {s : Option (List UInt8)}
set_option maxHeartbeats 8000000 in
theorem kBody_any (hP : PassAt c w g S N s) (hN : N + 105606 ≤ 16000000) (hb : ¬ S b) (cs : List Value) (v : BodyD) (hT : Tgt c w b (off + 3) cs) (hR : bodyD.rep w (Zs c S b) cs v) (hbl : c.m.isRd = true → bodyBlank cs v) :
    Calls Try.prog 46 #[c.cv, c.m.v g, .pointer (some ⟨b, off, none⟩)] w (After c w g S (N + 105606) s b (off + 3) bodyD (bodyE c.C) v) := by
  obtain ⟨uc, ut, um, rfl, hR1, hR2, hR3⟩ := hR
  have hlen := hP.len
  obtain ⟨x0, y0, lc, lt, lm⟩ := v
  have hb1 : c.m.isRd = true → uc = .slice none 0 0 ∧ lc = [] := fun h => by
    obtain ⟨h1, h2, h3, h4⟩ := hbl h
    simp at h1
    exact ⟨h1.1, h2⟩
  have hb2 : c.m.isRd = true → ut = .slice none 0 0 ∧ lt = [] := fun h => by
    obtain ⟨h1, h2, h3, h4⟩ := hbl h
    simp at h1
    exact ⟨h1.2.1, h3⟩
  have hb3 : c.m.isRd = true → um = .slice none 0 0 ∧ lm = [] := fun h => by
    obtain ⟨h1, h2, h3, h4⟩ := hbl h
    simp at h1
    exact ⟨h1.2.2, h4⟩
  have hO : Ov c w g S b (off + 3) 5 w S N s [.int .i64 x0, .int .i64 y0, uc, ut, um] := Ov.start hP hT rfl hb
  have HO0 := Lib.hid hO
  have HR1 : Hid (bytesT.rep w (Zs c S b) [uc] lc) := Lib.hid hR1
  have HR2 : Hid ((rowT trapT).rep w (Zs c S b) [ut] lt) := Lib.hid hR2
  have HR3 : Hid ((rowT mapD).rep w (Zs c S b) [um] lm) := Lib.hid hR3
  have Hb1 := Lib.hid hb1
  have Hb2 := Lib.hid hb2
  have Hb3 := Lib.hid hb3
  clear hO hP hT hb hR1 hR2 hR3 hbl hb1 hb2 hb3
  obtain ⟨cv, hcv⟩ : ∃ cv, cv = c.cv := ⟨_, rfl⟩
  obtain ⟨p, hp⟩ : ∃ p, p = c.m.v g := ⟨_, rfl⟩
  rw [← hcv, ← hp]
  have HP : Hid (p = c.m.v g) := Lib.hid hp
  have HC : Hid (cv = c.cv) := Lib.hid hcv
  clear hcv hp
  go_enter Try.func46, Try.ntmps46
  go_wp2_with fail
  refine wp_region_held_drew (S := fun _ => True) (by kernel_rfl) trivial (fun hHeld0 => ?_)
  refine take_yes 0 6 ?_ rfl rfl (by kernel_rfl) (by kernel_rfl) (by kernel_rfl) (fun _ _ _ h => h) (by kernel_rfl) ?_ (by assumption) ?_; rotate_left; (focus (intro w hSw; (try dsimp only at hSw); go_simp; all_goals first | with_reducible rfl)); simp only [Act.put, List.setIfInBounds_toArray, List.set_cons_zero, List.set_cons_succ]
  refine take_yes 1 7 ?_ rfl rfl (by kernel_rfl) (by kernel_rfl) (by kernel_rfl) (fun _ _ _ h => h) (by kernel_rfl) ?_ (by assumption) ?_; rotate_left; (focus (intro w hSw; (try dsimp only at hSw); go_simp; all_goals first | with_reducible rfl)); simp only [Act.put, List.setIfInBounds_toArray, List.set_cons_zero, List.set_cons_succ]
  refine take_yes 2 8 ?_ rfl rfl (by kernel_rfl) (by kernel_rfl) (by kernel_rfl) (fun _ _ _ h => h) (by kernel_rfl) ?_ (by assumption) ?_; rotate_left; (focus (intro w hSw; (try dsimp only at hSw); go_simp; all_goals first | with_reducible rfl)); simp only [Act.put, List.setIfInBounds_toArray, List.set_cons_zero, List.set_cons_succ]
  refine take_yes 3 9 ?_ rfl rfl (by kernel_rfl) (by kernel_rfl) (by kernel_rfl) (fun _ _ _ h => h) (by kernel_rfl) ?_ (by assumption) ?_; rotate_left; (focus (intro w hSw; (try dsimp only at hSw); go_simp; all_goals first | with_reducible rfl)); simp only [Act.put, List.setIfInBounds_toArray, List.set_cons_zero, List.set_cons_succ]
  refine wpAnyH_ready (rs := [4]) (by kernel_rfl) (by simp) ?_
  refine AllReadyH.cons rfl (fun K hK => ?_) AllReadyH.nil
  go_simp
  go_at_call 42; refine (kUpTo_any _ _).mono ?_; rintro e wu ⟨rfl, rfl⟩
  have C1 := HO0.out.numUp (W := (w.drew).alloc (.cells #[.int .i64 64] 3)) (((Only.refl Empty _).drew).alloc _) w.heap.size 64 rfl (Blk.new w.drew 3 #[.int .i64 64]) (Nat.le_refl _) (by omega) 0 rfl (by omega)
  rw [← HP.out] at C1
  have HC1 := Lib.hid C1
  clear C1
  go_wp2_with fail
  refine hK.out _ _ (trivial) (fun _ => ?_)
  clear hK K
  try simp only [Act.put, List.setIfInBounds_toArray, List.set_cons_zero, List.set_cons_succ]
  refine wpAnyH_ready (rs := [5]) (by kernel_rfl) (by simp) ?_
  refine AllReadyH.cons rfl (fun K hK => ?_) AllReadyH.nil
  go_simp
  refine HC1.out.mono ?_
  rintro e w1 ⟨rfl, S1, s1, x1, hO1, hS1⟩
  have HO1 : Hid (Ov c w g S b (off + 3) 5 w1 S1 (N + 2) s1 [.int .i64 x1, .int .i64 y0, uc, ut, um]) := Lib.hid hO1
  have HS1 := Lib.hid hS1
  clear hO1 hS1 HC1
  go_wp2_with fail
  refine hK.out _ _ (trivial) (fun _ => ?_)
  clear hK K
  try simp only [Act.put, List.setIfInBounds_toArray, List.set_cons_zero, List.set_cons_succ]
  refine wpAnyH_done (by kernel_rfl) ?_ _
  go_wp2_with fail
  refine wp_region_held_drew (S := fun _ => True) (by kernel_rfl) trivial (fun hHeld1 => ?_)
  refine take_yes 0 12 ?_ rfl rfl (by kernel_rfl) (by kernel_rfl) (by kernel_rfl) (fun _ _ _ h => h) (by kernel_rfl) ?_ (by assumption) ?_; rotate_left; (focus (intro w hSw; (try dsimp only at hSw); go_simp; all_goals first | with_reducible rfl)); simp only [Act.put, List.setIfInBounds_toArray, List.set_cons_zero, List.set_cons_succ]
  refine take_yes 1 13 ?_ rfl rfl (by kernel_rfl) (by kernel_rfl) (by kernel_rfl) (fun _ _ _ h => h) (by kernel_rfl) ?_ (by assumption) ?_; rotate_left; (focus (intro w hSw; (try dsimp only at hSw); go_simp; all_goals first | with_reducible rfl)); simp only [Act.put, List.setIfInBounds_toArray, List.set_cons_zero, List.set_cons_succ]
  refine take_yes 2 14 ?_ rfl rfl (by kernel_rfl) (by kernel_rfl) (by kernel_rfl) (fun _ _ _ h => h) (by kernel_rfl) ?_ (by assumption) ?_; rotate_left; (focus (intro w hSw; (try dsimp only at hSw); go_simp; all_goals first | with_reducible rfl)); simp only [Act.put, List.setIfInBounds_toArray, List.set_cons_zero, List.set_cons_succ]
  refine take_yes 3 15 ?_ rfl rfl (by kernel_rfl) (by kernel_rfl) (by kernel_rfl) (fun _ _ _ h => h) (by kernel_rfl) ?_ (by assumption) ?_; rotate_left; (focus (intro w hSw; (try dsimp only at hSw); go_simp; all_goals first | with_reducible rfl)); simp only [Act.put, List.setIfInBounds_toArray, List.set_cons_zero, List.set_cons_succ]
  refine wpAnyH_ready (rs := [4]) (by kernel_rfl) (by simp) ?_
  refine AllReadyH.cons rfl (fun K hK => ?_) AllReadyH.nil
  go_simp
  go_at_call 42; refine (kUpTo_any _ _).mono ?_; rintro e wu ⟨rfl, rfl⟩
  have C2 := HO1.out.numUp (W := (w1.drew).alloc (.cells #[.int .i64 64] 3)) (((Only.refl Empty _).drew).alloc _) w1.heap.size 64 rfl (Blk.new w1.drew 3 #[.int .i64 64]) (Nat.le_refl _) (by omega) 1 rfl (by omega)
  rw [← HP.out, show off + 3 + 1 = off + 4 from rfl] at C2
  have HC2 := Lib.hid C2
  clear C2
  go_wp2_with fail
  refine hK.out _ _ (trivial) (fun _ => ?_)
  clear hK K
  try simp only [Act.put, List.setIfInBounds_toArray, List.set_cons_zero, List.set_cons_succ]
  refine wpAnyH_ready (rs := [5]) (by kernel_rfl) (by simp) ?_
  refine AllReadyH.cons rfl (fun K hK => ?_) AllReadyH.nil
  go_simp
  refine HC2.out.mono ?_
  rintro e w2 ⟨rfl, S2, s2, y2, hO2, hS2⟩
  have HO2 : Hid (Ov c w g S b (off + 3) 5 w2 S2 (N + 2 + 2) s2 [.int .i64 x1, .int .i64 y2, uc, ut, um]) := Lib.hid hO2
  have HS2 := Lib.hid hS2
  clear hO2 hS2 HC2
  have t2 := (HO2.out.cellAt 2 rfl).1
  have C3 := kCode_any HO2.out.done.pass (by omega) HO2.out.out uc lc t2 (HO2.out.rep0 HR1.out) Hb1.out
  rw [← HP.out, show off + 3 + 2 = off + 5 from rfl] at C3
  have HC3 := Lib.hid C3
  clear C3 t2
  go_wp2_with fail
  refine hK.out _ _ (trivial) (fun _ => ?_)
  clear hK K
  try simp only [Act.put, List.setIfInBounds_toArray, List.set_cons_zero, List.set_cons_succ]
  refine wpAnyH_done (by kernel_rfl) ?_ _
  go_wp2_with fail
  refine HC3.out.mono ?_
  rintro e w3 ⟨rfl, S3, s3, cs3, lc3, hD3, hT3, hR3', hS3⟩
  obtain ⟨uc3, rfl⟩ := one_cell (R := bytesT) rfl hR3'
  have HO3 : Hid (Ov c w g S b (off + 3) 5 w3 S3 (N + 2 + 2 + 4100) s3 [.int .i64 x1, .int .i64 y2, uc3, ut, um]) := Lib.hid (HO2.out.put 2 rfl hD3 hT3)
  have HD3 := Lib.hid hD3
  have HRc := Lib.hid hR3'
  have HS3 := Lib.hid hS3
  clear hD3 hT3 hR3' hS3 HC3
  have t3 := (HO3.out.cellAt 3 rfl).1
  have C4 := kRowTrap_any (c := c) 255 (by omega) 255 rfl (kTrap_item c) rfl (Uniq.trap c.C hlen) (by omega) ⟨0, 0, 0, 0⟩ trap_z trivial enter_trap HO3.out.done.pass (by omega) HO3.out.out t3 (HO3.out.rep0 HR2.out) Hb2.out
  rw [← HP.out, ← HC.out, show off + 3 + 3 = off + 6 from rfl] at C4
  have HC4 := Lib.hid C4
  clear C4 t3
  go_wp2_with fail
  refine HC4.out.mono ?_
  rintro e w4 ⟨rfl, S4, s4, cs4, lt4, hD4, hT4, hR4, hS4⟩
  obtain ⟨ut4, rfl⟩ := one_cell (R := rowT trapT) rfl hR4
  have HO4 : Hid (Ov c w g S b (off + 3) 5 w4 S4 (N + 2 + 2 + 4100 + (2 + 255 * 8)) s4 [.int .i64 x1, .int .i64 y2, uc3, ut4, um]) := Lib.hid (HO3.out.put 3 rfl hD4 hT4)
  have HD4 := Lib.hid hD4
  have HR4 := Lib.hid hR4
  have HS4 := Lib.hid hS4
  clear hD4 hT4 hR4 hS4 HC4
  have t4 := (HO4.out.cellAt 4 rfl).1
  have C5 := kMaps_any HO4.out.done.pass (by omega) HO4.out.out um lm t4 (HO4.out.rep0 HR3.out) Hb3.out
  rw [← HP.out, ← HC.out, show off + 3 + 4 = off + 7 from rfl] at C5
  have HC5 := Lib.hid C5
  clear C5 t4
  go_wp2_with fail
  refine HC5.out.mono ?_
  rintro e w5 ⟨rfl, S5, s5, cs5, lm5, hD5, hT5, hR5, hS5⟩
  obtain ⟨um5, rfl⟩ := one_cell (R := rowT mapD) rfl hR5
  have HO5 : Hid (Ov c w g S b (off + 3) 5 w5 S5 (N + 2 + 2 + 4100 + (2 + 255 * 8) + 99460) s5 [.int .i64 x1, .int .i64 y2, uc3, ut4, um5]) := Lib.hid (HO4.out.put 4 rfl hD5 hT5)
  have HD5 := Lib.hid hD5
  have HR5 := Lib.hid hR5
  have HS5 := Lib.hid hS5
  clear hD5 hT5 hR5 hS5 HC5
  go_wp2
  go_end0
  refine ⟨rfl, S5, s5, _, ⟨x1, y2, lc3, lt4, lm5⟩, HO5.out.done, HO5.out.tgt, ⟨uc3, ut4, um5, rfl, ?_, ?_, ?_⟩, ?_⟩
  · have h := rep_on (H' := w.heap.size) HRc.out HD4.out.only (fun _ => Nat.lt_of_lt_of_le HO0.out.lt0 HO2.out.done.only.size) HD4.out.sub HO2.out.done.only.size
    exact rep_on h HD5.out.only (fun _ => HO0.out.lt0) HD5.out.sub (Nat.le_refl _)
  · exact rep_on HR4.out HD5.out.only (fun _ => Nat.lt_of_lt_of_le HO0.out.lt0 HO3.out.done.only.size) HD5.out.sub HO3.out.done.only.size
  · exact rep_on HR5.out (Only.refl (Zs c S5 b) _) (fun _ => Nat.lt_of_lt_of_le HO0.out.lt0 HO4.out.done.only.size) (fun _ h => .inl h) HO4.out.done.only.size
  · exact Stp.map (g := fun d : BodyD => (d.stack, d.locals, d.code, d.traps, d.maps)) body_inj (Stp.seq (Uniq.kind (fits_up 64 (by omega))) HS1.out (Stp.seq (Uniq.kind (fits_up 64 (by omega))) HS2.out (Stp.seq Uniq.code HS3.out (Stp.seq ((Uniq.trap c.C hlen).row (by omega)) HS4.out HS5.out))))
end

end Go.Proofs.Ytendpbklcgiafaa

/- The walk over klass's method, of whichever pass. -/
namespace Go.Proofs.Ytendpbklcgiafaa
set_option maxRecDepth 100000
open Go.RowKit

@[ext] structure MethD where
  flags : Int
  name : Int
  desc : Int
  body : BodyD
def methD : RepT MethD where
  k := 8
  rep w Z cs v := ∃ cb, cs = .int .i64 v.flags :: .int .i64 v.name :: .int .i64 v.desc :: cb ∧ bodyD.rep w Z cb v.body
  len h := by obtain ⟨cb, rfl, h⟩ := h; simp [bodyD.len h, bodyD]
  next h k hZ := by
    obtain ⟨cb, rfl, h⟩ := h
    exact ⟨cb, rfl, bodyD.next h k hZ⟩
def methBlank (cs : List Value) (v : MethD) : Prop := ∃ cb, cs = .int .i64 v.flags :: .int .i64 v.name :: .int .i64 v.desc :: cb ∧ bodyBlank cb v.body
def codeT : List UInt8 := [67, 111, 100, 101]
def methE (C : List Cst) : Enc MethD := mapE (fun d => ((d.flags, d.name, d.desc), (), d.body)) (seqE (memE C) (fun _ => seqE (justE 2 1) (fun _ => partE C codeT (bodyE C))))
theorem meth_inj (a b : MethD) (h : ((a.flags, a.name, a.desc), (), a.body) = ((b.flags, b.name, b.desc), (), b.body)) : a = b := by
  obtain ⟨⟨h1, h2, h3⟩, h4⟩ : (a.flags = b.flags ∧ a.name = b.name ∧ a.desc = b.desc) ∧ a.body = b.body := by simpa using h
  exact MethD.ext h1 h2 h3 h4
theorem Uniq.meth (C : List Cst) (h : C.length ≤ 1024) : Uniq (methE C) :=
  ((Uniq.mem C h).seq (fun _ => (Uniq.just 2 1).seq (fun _ => (Uniq.body C h).part C codeT))).map meth_inj

section
variable {c : Cx} {w : World} {g b off : Nat} {S : Nat → Prop} {N : Nat} {s : Option (List UInt8)}
set_option maxHeartbeats 4000000 in
theorem Done.of_empty {W w' : World} {S' : Nat → Prop} {N' k : Nat} {s' : Option (List UInt8)} (h : Done c W g S b off k w' S' N' s') (hO : Only Empty w W) (hb : b < w.heap.size) : Done c w g S b off k w' S' N' s' :=
  ⟨h.pass, fun q hq => (h.sub q hq).imp id (fun h => Nat.le_trans hO.size h), (hO.mono (fun _ _ h => h.elim)).trans h.only, fun o ho => (h.rest o ho).trans (hO.cell (p := ⟨b, o, none⟩) hb (fun h => h))⟩
theorem method1_steps {w : World} {S : Nat → Prop} {b off q5 q3 : Nat} {cs : List Value} {v : BodyD} (h5 : Blk w q5 103 #[.pointer (some ⟨b, off, none⟩)]) (h3 : Blk w q3 79 #[c.cv]) (n5 : ¬ S q5) (n3 : ¬ S q3) (hb : ¬ S b) (hT : Tgt c w b (off + 3) cs)
    (hR : bodyD.rep w (Zs c S b) cs v) (hbl : c.m.isRd = true → bodyBlank cs v) : Steps c 45 #[.pointer (some ⟨q3, 0, none⟩), .pointer (some ⟨q5, 0, none⟩)] bodyD (bodyE c.C) 105606 w S b (off + 3) v := by
  refine ⟨fun args W => by kernel_rfl, fun W g1 S1 N1 s1 hP hN hO hs => ?_⟩
  have c5 := (hO.blk h5 n5).cell 0
  have c3 := (hO.blk h3 n3).cell 0
  simp at c5 c3
  have hb1 : ¬ S1 b := fun h => by
    rcases hs b h with h | h
    · exact hb h
    · have := hT.lt; omega
  have C1 := kBody_any hP hN hb1 cs v (hT.only hO hb) (bodyD.next hR (hO.mono (fun _ _ h => .inl h)) (Zs.mono hs)) hbl
  have eArr : (#[c.m.v g1] ++ #[.pointer (some ⟨q3, 0, none⟩), .pointer (some ⟨q5, 0, none⟩)] : Array Value) = #[c.m.v g1, .pointer (some ⟨q3, 0, none⟩), .pointer (some ⟨q5, 0, none⟩)] := rfl
  rw [eArr]
  obtain ⟨p, hp⟩ : ∃ p, p = c.m.v g1 := ⟨_, rfl⟩
  have hcv2 : ∃ A n cap, c.cv = .slice A n cap := ⟨_, _, _, rfl⟩
  obtain ⟨cA, cn, cc, hcv3⟩ := hcv2
  rw [hcv3] at c3 C1
  rw [← hp] at C1 ⊢
  have HC1 := Lib.hid C1
  clear C1 hP hO hs hb1 eArr hp hcv3 h5 h3 n5 n3 hb hT hR hbl
  go_enter Try.func45, Try.ntmps45
  go_wp2_with fail
  refine HC1.out.mono ?_
  rintro e1 w1 ⟨rfl, S2, s2, cs2, v2, hD, hT, hR, hS⟩
  have H : Hid (After c W g1 S1 (N1 + 105606) s1 b (off + 3) bodyD (bodyE c.C) v (.returned (.tuple #[])) w1) := Lib.hid ⟨rfl, S2, s2, cs2, v2, hD, hT, hR, hS⟩
  clear hD hT hR hS
  go_wp2
  go_end0
  exact H.out

set_option maxHeartbeats 8000000 in
theorem kMethod_item (c : Cx) : Item c 34 methD (methE c.C) 105620 methBlank := by
  intro w g S N s b off cs v hP hN hb hT hR hbl
  obtain ⟨cb, rfl, hRb⟩ := hR
  have hlen := hP.len
  obtain ⟨f, n, d, v⟩ := v
  have hbb : c.m.isRd = true → bodyBlank cb v := fun h => by
    obtain ⟨cb', h1, h2⟩ := hbl h
    simp at h1
    rw [h1]
    exact h2
  have hcb : cb.length = 5 := bodyD.len hRb
  -- the two boxes
  obtain ⟨W2, hW2⟩ : ∃ W2, W2 = (w.alloc (.cells #[c.cv] 79)).alloc (.cells #[.pointer (some ⟨b, off, none⟩)] 103) := ⟨_, rfl⟩
  have hO2 : Only Empty w W2 := by rw [hW2]; exact ((Only.refl Empty w).alloc _).alloc _
  have hB3 : Blk W2 w.heap.size 79 #[c.cv] := by rw [hW2]; exact (Blk.new w 79 #[c.cv]).alloc _
  have hB5 : Blk W2 (w.heap.size + 1) 103 #[.pointer (some ⟨b, off, none⟩)] := by
    have h := Blk.new (w.alloc (.cells #[c.cv] 79)) 103 #[.pointer (some ⟨b, off, none⟩)]
    have hs : (w.alloc (.cells #[c.cv] 79)).heap.size = w.heap.size + 1 := by simp
    rw [hs] at h
    rw [hW2]
    exact h
  have hOv : Ov c w g S b off 8 w S N s (.int .i64 f :: .int .i64 n :: .int .i64 d :: cb) := Ov.start hP hT (by simp [hcb]) hb
  have hOd : Ov c W2.drew g S b off 8 W2.drew S N s (.int .i64 f :: .int .i64 n :: .int .i64 d :: cb) := Ov.start (hP.only hO2.drew (fun _ _ h => h.elim) (fun _ _ h => h.elim)) (hT.only hO2.drew (fun h => h)) (by simp [hcb]) hb
  have C1 := kMember_any hOd (by omega)
  have c3 := hB3.cell 0
  have c5 := hB5.cell 0
  simp at c3 c5
  have HO0 := Lib.hid hOv
  have HOd := Lib.hid hOd
  have HB3 := Lib.hid hB3
  have HB5 := Lib.hid hB5
  have HO2 := Lib.hid hO2
  have HRb := Lib.hid hRb
  have Hbb := Lib.hid hbb
  have Hcb := Lib.hid hcb
  obtain ⟨cA, cn, cc, hcv3⟩ : ∃ A n cap, c.cv = .slice A n cap := ⟨_, _, _, rfl⟩
  obtain ⟨p, hp⟩ : ∃ p, p = c.m.v g := ⟨_, rfl⟩
  rw [hcv3] at c3 C1 hW2
  rw [← hp] at C1
  rw [hcv3, ← hp]
  have Hp := Lib.hid hp
  have Hcv := Lib.hid hcv3
  have HC1 := Lib.hid C1
  have HW2 := Lib.hid hW2
  clear C1 hP hT hb hbl hbb hRb hO2 hB3 hB5 hOv hOd hp hcv3 hW2 hcb
  go_enter Try.func34, Try.ntmps34
  go_wp2_with fail
  rw [← HW2.out]
  refine wp_region_held_drew (S := fun W => W.cell? ⟨w.heap.size, 0, none⟩ = some (.slice cA cn cc) ∧ W.cell? ⟨w.heap.size + 1, 0, none⟩ = some (.pointer (some ⟨b, off, none⟩))) (by kernel_rfl) ⟨c3, c5⟩ (fun hHeld0 => ?_)
  refine take_yes 0 6 (.slice cA cn cc) rfl rfl (by kernel_rfl) (by kernel_rfl) (by kernel_rfl) (fun _ _ _ h => h) (by kernel_rfl) ?_ (by assumption) ?_; (focus (intro w hSw; (try dsimp only at hSw); go_simp; all_goals first | with_reducible rfl)); simp only [Act.put, List.setIfInBounds_toArray, List.set_cons_zero, List.set_cons_succ]
  refine take_yes 1 7 ?_ rfl rfl (by kernel_rfl) (by kernel_rfl) (by kernel_rfl) (fun _ _ _ h => h) (by kernel_rfl) ?_ (by assumption) ?_; rotate_left; (focus (intro w hSw; (try dsimp only at hSw); go_simp; all_goals first | with_reducible rfl)); simp only [Act.put, List.setIfInBounds_toArray, List.set_cons_zero, List.set_cons_succ]
  refine take_yes 2 8 (.pointer (some ⟨b, off, none⟩)) rfl rfl (by kernel_rfl) (by kernel_rfl) (by kernel_rfl) (fun _ _ _ h => h) (by kernel_rfl) ?_ (by assumption) ?_; (focus (intro w hSw; (try dsimp only at hSw); go_simp; all_goals first | with_reducible rfl)); simp only [Act.put, List.setIfInBounds_toArray, List.set_cons_zero, List.set_cons_succ]
  refine take_yes 3 9 ?_ rfl rfl (by kernel_rfl) (by kernel_rfl) (by kernel_rfl) (fun _ _ _ h => h) (by kernel_rfl) ?_ (by assumption) ?_; rotate_left; (focus (intro w hSw; (try dsimp only at hSw); go_simp; all_goals first | with_reducible rfl)); simp only [Act.put, List.setIfInBounds_toArray, List.set_cons_zero, List.set_cons_succ]
  refine take_yes 4 10 ?_ rfl rfl (by kernel_rfl) (by kernel_rfl) (by kernel_rfl) (fun _ _ _ h => h) (by kernel_rfl) ?_ (by assumption) ?_; rotate_left; (focus (intro w hSw; (try dsimp only at hSw); go_simp; all_goals first | with_reducible rfl)); simp only [Act.put, List.setIfInBounds_toArray, List.set_cons_zero, List.set_cons_succ]
  refine take_yes 5 11 (.pointer (some ⟨b, off, none⟩)) rfl rfl (by kernel_rfl) (by kernel_rfl) (by kernel_rfl) (fun _ _ _ h => h) (by kernel_rfl) ?_ (by assumption) ?_; (focus (intro w hSw; (try dsimp only at hSw); go_simp; all_goals first | with_reducible rfl)); simp only [Act.put, List.setIfInBounds_toArray, List.set_cons_zero, List.set_cons_succ]
  refine take_yes 6 12 ?_ rfl rfl (by kernel_rfl) (by kernel_rfl) (by kernel_rfl) (fun _ _ _ h => h) (by kernel_rfl) ?_ (by assumption) ?_; rotate_left; (focus (intro w hSw; (try dsimp only at hSw); go_simp; all_goals first | with_reducible rfl)); simp only [Act.put, List.setIfInBounds_toArray, List.set_cons_zero, List.set_cons_succ]
  refine take_yes 7 13 ?_ rfl rfl (by kernel_rfl) (by kernel_rfl) (by kernel_rfl) (fun _ _ _ h => h) (by kernel_rfl) ?_ (by assumption) ?_; rotate_left; (focus (intro w hSw; (try dsimp only at hSw); go_simp; all_goals first | with_reducible rfl)); simp only [Act.put, List.setIfInBounds_toArray, List.set_cons_zero, List.set_cons_succ]
  refine take_yes 8 14 (.pointer (some ⟨b, off, none⟩)) rfl rfl (by kernel_rfl) (by kernel_rfl) (by kernel_rfl) (fun _ _ _ h => h) (by kernel_rfl) ?_ (by assumption) ?_; (focus (intro w hSw; (try dsimp only at hSw); go_simp; all_goals first | with_reducible rfl)); simp only [Act.put, List.setIfInBounds_toArray, List.set_cons_zero, List.set_cons_succ]
  refine take_yes 9 15 ?_ rfl rfl (by kernel_rfl) (by kernel_rfl) (by kernel_rfl) (fun _ _ _ h => h) (by kernel_rfl) ?_ (by assumption) ?_; rotate_left; (focus (intro w hSw; (try dsimp only at hSw); go_simp; all_goals first | with_reducible rfl)); simp only [Act.put, List.setIfInBounds_toArray, List.set_cons_zero, List.set_cons_succ]
  refine take_yes 10 16 ?_ rfl rfl (by kernel_rfl) (by kernel_rfl) (by kernel_rfl) (fun _ _ _ h => h) (by kernel_rfl) ?_ (by assumption) ?_; rotate_left; (focus (intro w hSw; (try dsimp only at hSw); go_simp; all_goals first | with_reducible rfl)); simp only [Act.put, List.setIfInBounds_toArray, List.set_cons_zero, List.set_cons_succ]
  refine wpAnyH_ready (rs := [11]) (by kernel_rfl) (by simp) ?_
  refine AllReadyH.cons rfl (fun K hK => ?_) AllReadyH.nil
  go_simp
  refine HC1.out.mono ?_
  rintro e w1 ⟨rfl, S1, s1, f', n', d', hO1, hS1⟩
  have hz3 : ¬ Zs c S b w.heap.size := fun h => by
    rcases h with h | ⟨_, h⟩
    · exact HO0.out.done.pass.fresh (Nat.le_refl _) h
    · have := HO0.out.lt0; omega
  have hz5 : ¬ Zs c S b (w.heap.size + 1) := fun h => by
    rcases h with h | ⟨_, h⟩
    · exact HO0.out.done.pass.fresh (by omega) h
    · have := HO0.out.lt0; omega
  have h3_1 := hO1.done.only.blk (HB3.out.drew) hz3
  have h5_1 := hO1.done.only.blk (HB5.out.drew) hz5
  have c3_1 := h3_1.cell 0
  have c5_1 := h5_1.cell 0
  simp at c3_1 c5_1
  rw [Hcv.out] at c3_1
  have C2 := kAlways_any hO1.done.pass 1 1 rfl (by omega) (by omega)
  rw [← Hp.out] at C2
  have HC2 := Lib.hid C2
  have HO1 := Lib.hid hO1
  have HS1 := Lib.hid hS1
  have H3 : Hid (Blk w1 w.heap.size 79 #[c.cv] ∧ ¬ S1 w.heap.size) := Lib.hid ⟨h3_1, fun h => by
    rcases hO1.done.sub _ h with h | h
    · exact hz3 (.inl h)
    · have := HB3.out.lt; have h : W2.heap.size ≤ w.heap.size := h; omega⟩
  have H5 : Hid (Blk w1 (w.heap.size + 1) 103 #[.pointer (some ⟨b, off, none⟩)] ∧ ¬ S1 (w.heap.size + 1)) := Lib.hid ⟨h5_1, fun h => by
    rcases hO1.done.sub _ h with h | h
    · exact hz5 (.inl h)
    · have := HB5.out.lt; have h : W2.heap.size ≤ w.heap.size + 1 := h; omega⟩
  clear hz3 hz5 h3_1 h5_1 C2 hO1 hS1 HC1
  go_wp2_with fail
  refine hK.out _ _ (⟨c3_1, c5_1⟩) (fun _ => ?_)
  clear hK K
  try simp only [Act.put, List.setIfInBounds_toArray, List.set_cons_zero, List.set_cons_succ]
  refine wpAnyH_done (by kernel_rfl) ?_ _
  go_wp2_with fail
  refine HC2.out.mono ?_
  rintro e w2 ⟨rfl, S2, s2, hP2, hs2, hO2, hS2⟩
  have hOv2 := HO1.out.went hP2 hs2 hO2
  have h3_2 := hO2.blk H3.out.1 H3.out.2
  have h5_2 := hO2.blk H5.out.1 H5.out.2
  have c3_2 := h3_2.cell 0
  simp at c3_2
  rw [Hcv.out] at c3_2
  have n3 : ¬ S2 w.heap.size := fun h => by
    rcases hs2 _ h with h | h
    · exact H3.out.2 h
    · have := H3.out.1.lt; omega
  have n5 : ¬ S2 (w.heap.size + 1) := fun h => by
    rcases hs2 _ h with h | h
    · exact H5.out.2 h
    · have := H5.out.1.lt; omega
  have hOw2 : Only (Zs c S b) w w2 := ((HO2.out.drew).mono (fun _ _ h => h.elim)).trans hOv2.done.only
  have hsub2 : ∀ q, S2 q → S q ∨ w.heap.size ≤ q := fun q hq => (hOv2.done.sub q hq).imp id (fun h => Nat.le_trans HO2.out.size h)
  have hT2 : Tgt c w2 b (off + 3) cb := hOv2.tgt.sub (p := [.int .i64 f', .int .i64 n', .int .i64 d']) (q1 := cb) (r := []) (by simp)
  have hR2 : bodyD.rep w2 (Zs c S2 b) cb v := bodyD.next HRb.out hOw2 (Zs.mono hsub2)
  have C3 := kPart_any (t := codeT) (HO1.out.done.pass.dry_stp (fun _ x hx => by cases hx; intro e; have h9 := congrArg List.length e; rw [putL_len] at h9; cases h9) hS2) hP2 (cost := 105606) (by omega) hOv2.out hT2 hR2 (Uniq.body c.C hlen) ((Bd.body c.C).short (by omega)) (method1_steps h5_2 h3_2 n5 n3 hOv2.out hT2 hR2 Hbb.out)
  rw [← Hp.out, Hcv.out] at C3
  have C3' : Calls Try.prog 44 #[.slice cA cn cc, p, .string ⟨#[67, 111, 100, 101]⟩, .func (.func 45) #[] #[.pointer (some ⟨w.heap.size, 0, none⟩), .pointer (some ⟨w.heap.size + 1, 0, none⟩)]] w2 (After c w2 g S2 (N + 6 + 2 + (6 + 105606)) s2 b (off + 3) bodyD (partE c.C codeT (bodyE c.C)) v) := C3
  have HC3 := Lib.hid C3'
  have HO2v := Lib.hid hOv2
  have HS2 := Lib.hid hS2
  clear hP2 hs2 hO2 hS2 hOv2 h3_2 h5_2 n3 n5 hOw2 hsub2 hT2 hR2 C3 C3' HC2 c3_1 c5_1
  go_wp2_with fail
  refine HC3.out.mono ?_
  rintro e w3 ⟨rfl, S3, s3, cs3, v3, hD3, hT3, hR3, hS3⟩
  have hl3 : cs3.length = cb.length := by rw [Hcb.out]; exact bodyD.len hR3
  have hOv3 : Ov c W2.drew g S b off 8 w3 S3 (N + 6 + 2 + (6 + 105606)) s3 ([.int .i64 f', .int .i64 n', .int .i64 d'] ++ cs3 ++ []) := by
    have h := HO2v.out
    have h' : Ov c W2.drew g S b off 8 w2 S2 (N + 6 + 2) s2 ([.int .i64 f', .int .i64 n', .int .i64 d'] ++ cb ++ []) := by simpa using h
    refine h'.step (w' := w3) (S' := S3) (N' := N + 6 + 2 + (6 + 105606)) (s' := s3) ?_ hT3 hl3
    rw [Hcb.out]
    exact hD3
  have HO3 := Lib.hid hOv3
  have HR3 := Lib.hid hR3
  have HS3 := Lib.hid hS3
  clear hD3 hT3 hR3 hS3 hOv3 HC3
  go_wp2
  go_end0
  have hD := HO3.out.done.of_empty (w := w) HO2.out.drew HO0.out.lt0
  refine ⟨rfl, S3, s3, _, ⟨f', n', d', v3⟩, hD, HO3.out.tgt, ⟨cs3, by simp, ?_⟩, ?_⟩
  · refine bodyD.next HR3.out (Only.refl _ _) (fun q hq hz => ?_)
    rcases hz with hz | ⟨h1, h2⟩
    · exact .inl hz
    · exact .inr ⟨h1, Nat.lt_of_lt_of_le h2 (Nat.le_trans HO2.out.size HO2v.out.done.only.size)⟩
  · exact Stp.map (g := fun d : MethD => ((d.flags, d.name, d.desc), (), d.body)) meth_inj (Stp.seq (Uniq.mem c.C hlen) HS1.out (Stp.seq (Uniq.just 2 1) HS2.out HS3.out))
end

end Go.Proofs.Ytendpbklcgiafaa

/- The walk over klass's class, of whichever pass. -/
namespace Go.Proofs.Ytendpbklcgiafaa
set_option maxRecDepth 100000
open Go.RowKit

@[ext] structure FileD where
  pool : List Cst
  this : Int
  super : Int
  fields : List FieldD
  meths : List MethD
def fileRep (w : World) (Z : Nat → Prop) (cs : List Value) (f : FileD) : Prop := ∃ up uf um, cs = [up, .int .i64 f.this, .int .i64 f.super, uf, um] ∧ poolT.rep w Z [up] f.pool ∧ (rowT fieldT).rep w Z [uf] f.fields ∧ (rowT methD).rep w Z [um] f.meths
def restE (C : List Cst) : Enc (Unit × Int × Int × Unit × List FieldD × List MethD × Unit) :=
  seqE (justE 2 33) (fun _ => seqE (kindE (isClassC C) 2) (fun _ => seqE (kindE (isClsNoneC C) 2) (fun _ => seqE (justE 2 0) (fun _ => seqE (rowE 64 (fieldE C)) (fun _ => seqE (rowE 64 (methE C)) (fun _ => justE 2 0))))))
def headE : Enc (Unit × Unit × Unit × Unit) := seqE (justE 2 51966) (fun _ => seqE (justE 2 47806) (fun _ => seqE (justE 2 0) (fun _ => justE 2 45)))
noncomputable def fileE : Enc FileD := mapE (fun f => (((), (), (), ()), f.pool, (), f.this, f.super, (), f.fields, f.meths, ())) (seqE headE (fun _ => seqE poolE (fun C => restE C)))
theorem file_inj (a b : FileD) (h : (((), (), (), ()), a.pool, (), a.this, a.super, (), a.fields, a.meths, ()) = ((((), (), (), ()), b.pool, (), b.this, b.super, (), b.fields, b.meths, ()) : (Unit × Unit × Unit × Unit) × List Cst × Unit × Int × Int × Unit × List FieldD × List MethD × Unit)) : a = b := by
  obtain ⟨h1, h2, h3, h4, h5⟩ : a.pool = b.pool ∧ a.this = b.this ∧ a.super = b.super ∧ a.fields = b.fields ∧ a.meths = b.meths := by simpa using h
  exact FileD.ext h1 h2 h3 h4 h5
theorem Uniq.head : Uniq headE := (Uniq.just 2 _).seq (fun _ => (Uniq.just 2 _).seq (fun _ => (Uniq.just 2 _).seq (fun _ => Uniq.just 2 _)))
theorem Uniq.rest (C : List Cst) (h : C.length ≤ 1024) : Uniq (restE C) :=
  (Uniq.just 2 _).seq (fun _ => (Uniq.kind (fits_class (c := cxOf C) h)).seq (fun _ => (Uniq.kind (fits_clsNone (c := cxOf C) h)).seq (fun _ => (Uniq.just 2 _).seq (fun _ => ((Uniq.field C h).row (by omega)).seq (fun _ => ((Uniq.meth C h).row (by omega)).seq (fun _ => Uniq.just 2 _))))))
theorem pool_small {l : List Cst} {x : List UInt8} (h : poolE l = some x) : l.length ≤ 1024 := by
  unfold poolE at h
  split at h
  · rename_i hc
    refine Nat.le_of_not_lt (fun hlt => ?_)
    rw [checkF_len (l := l) (fun hh => by have := hh.2; omega)] at hc
    cases hc
  · cases h
/-- What encodes a class is prefix-free. -/
theorem Uniq.file : Uniq fileE := by
  intro b v r v' r' h1 h2
  have e1 : Reads (seqE headE (fun _ => seqE poolE (fun C => restE C))) b _ r := h1
  have e2 : Reads (seqE headE (fun _ => seqE poolE (fun C => restE C))) b _ r' := h2
  obtain ⟨m1, a1, b1⟩ := reads_seq.1 e1
  obtain ⟨m2, a2, b2⟩ := reads_seq.1 e2
  obtain ⟨-, rfl⟩ := Uniq.head _ _ _ _ _ a1 a2
  obtain ⟨k1, c1, d1⟩ := reads_seq.1 b1
  obtain ⟨k2, c2, d2⟩ := reads_seq.1 b2
  obtain ⟨hp, rfl⟩ := Uniq.pool _ _ _ _ _ c1 c2
  obtain ⟨x, hx, _⟩ := c1
  have hs := pool_small hx
  simp only at hp d1 d2 hs
  rw [← hp] at d2
  obtain ⟨h3, rfl⟩ := Uniq.rest v.pool hs _ _ _ _ _ d1 d2
  refine ⟨?_, rfl⟩
  obtain ⟨h4, h5, h6, h7⟩ : v.this = v'.this ∧ v.super = v'.super ∧ v.fields = v'.fields ∧ v.meths = v'.meths := by simpa using h3
  exact FileD.ext hp h4 h5 h6 h7

def zeroMeth : MethD := ⟨0, 0, 0, 0, 0, [], [], []⟩
theorem meth_z : ∀ (w : World) (Z : Nat → Prop), methD.rep w Z [.int .i64 0, .int .i64 0, .int .i64 0, .int .i64 0, .int .i64 0, .slice none 0 0, .slice none 0 0, .slice none 0 0] zeroMeth := fun w Z =>
  ⟨_, rfl, _, _, _, rfl, ⟨none, 0, 0, rfl, ByteSl.nil_ _ _ _ _ (by unfold maxLen; omega), fun _ => ⟨rfl, rfl⟩⟩, ⟨none, 0, 0, rfl, rowS_nil _ _ _⟩, ⟨none, 0, 0, rfl, rowS_nil _ _ _⟩⟩
theorem meth_b : methBlank [.int .i64 0, .int .i64 0, .int .i64 0, .int .i64 0, .int .i64 0, .slice none 0 0, .slice none 0 0, .slice none 0 0] zeroMeth := ⟨_, rfl, rfl, rfl, rfl, rfl⟩
theorem field_z : ∀ (w : World) (Z : Nat → Prop), fieldT.rep w Z [.int .i64 0, .int .i64 0, .int .i64 0] ⟨0, 0, 0⟩ := fun _ _ => rfl
theorem enter_field (args : Array Value) (W : World) : (callFunc 32 args).run Try.prog W = .ok (.enter 32 args) W := by kernel_rfl
theorem enter_method (args : Array Value) (W : World) : (callFunc 34 args).run Try.prog W = .ok (.enter 34 args) W := by kernel_rfl

section
variable {c : Cx} {w : World} {g b off : Nat} {S : Nat → Prop} {N : Nat} {s : Option (List UInt8)}
/-- How small a pool that is written must be. -/
structure SmallP (l : List Cst) : Prop where
  len : l.length ≤ 1000
  texts : ∀ c ∈ l, c.s.length ≤ 1000000
  bytes : (poolB l).length ≤ 6000000
/-- What pool leaves, of whichever pass: the pass stands over it. -/
def PoolAt (c : Cx) (w : World) (g : Nat) (S : Nat → Prop) (N : Nat) (s : Option (List UInt8)) (b off : Nat) (l : List Cst) (e1 : Ending) (w' : World) : Prop :=
  e1 = .returned (.tuple #[]) ∧ ∃ (c1 : Cx) (S' : Nat → Prop) (s' : Option (List UInt8)), c1.m = c.m ∧ PassAt c1 w' g S' N s' ∧ (∀ q, S' q → S q ∨ w.heap.size ≤ q) ∧ Only (Zs c S b) w w' ∧ (∀ o, o < off ∨ off + 1 ≤ o → w'.cell? ⟨b, o, none⟩ = w.cell? ⟨b, o, none⟩) ∧ Tgt c1 w' b off [c1.cv] ∧ (∀ x ∈ c1.C, x.ok) ∧ Stp c.m.isRd poolE s l s' c1.C ∧ (c.m.isRd = true → ∀ q, c.X q → q < w.heap.size → c1.X q)
theorem mdPool_any (hP : PassAt c w g S N s) (hN : N + 6000000 ≤ 16000000) (hb : ¬ S b) (A : Option Addr) (n cap : Nat) (l : List Cst) (hT : Tgt c w b off [.slice A n cap]) (hok : ∀ x ∈ l, x.ok) (hwr : c.m.isRd = false → RowSl Cst.cells 5 w c.X A n cap l ∧ SmallP l) (hrd : c.m.isRd = true → A = none ∧ n = 0 ∧ cap = 0 ∧ l = []) :
    Calls Try.prog c.m.fP #[.pointer (some ⟨g, 0, none⟩), .pointer (some ⟨b, off, none⟩)] w (PoolAt c w g S (N + 6000000) s b off l) := by
  cases hm : c.m with
  | wr =>
    have hr : c.m.isRd = false := by rw [hm]; rfl
    obtain ⟨hl, hs⟩ := hwr hr
    have hn : n ≤ 1000 := by have := hl.1; have := hs.len; omega
    refine (kwPool_any hm hP A n cap l hb hT (hl.mono (fun _ _ h => h.elim)) hok hs.texts hs.bytes (by omega) hN).mono ?_
    rintro e w' ⟨rfl, ⟨S', h3, h4⟩, h5⟩
    have hl' := hl.only h5 (fun q _ hq => hP.inX q hq)
    refine ⟨rfl, ⟨c.m, c.X, A, n, cap, l⟩, S', s.bind fun out => (poolE l).map (out ++ ·), rfl, ?_, h4, h5.mono (fun _ _ h => .inl h), fun o _ => h5.cell (p := ⟨b, o, none⟩) hT.lt hb, ?_, hok, ?_, fun h => by rw [hr] at h; cases h⟩
    · have ha := h3.at_
      refine ⟨h3.lt, h3.inX, h3.new, hl', by show n ≤ 1024; omega, h3.here, ?_⟩
      unfold Stands at *
      rw [hm] at ha
      show match c.m with | .wr => _ | .rd A n cap b => _
      rw [hm]
      exact ha
    · have h := hT.only h5 hb
      exact ⟨h.lt, h.cell, fun h2 => by rw [show (Cx.m ⟨c.m, c.X, A, n, cap, l⟩) = c.m from rfl, hr] at h2; cases h2⟩
    · rw [hr]
      exact ⟨rfl, rfl⟩
  | rd A0 n0 cap0 bs =>
    have hr : c.m.isRd = true := by rw [hm]; rfl
    obtain ⟨rfl, rfl, rfl, rfl⟩ := hrd hr
    refine (krPool_any hm hP hb hT).mono ?_
    rintro e w' ⟨rfl, s', cs', v', h3, h4, ⟨B, L, cB, rfl, hRl, hok'⟩, h6, h7⟩
    refine ⟨rfl, ⟨c.m, fun q => (c.X q ∧ q < w.heap.size) ∨ w'.heap.size ≤ q, B, L, cB, v'⟩, S, s', rfl, ?_, fun _ h => .inl h, h3.only, h3.rest, ?_, hok', by rw [hr]; exact h6, fun _ q h1 h2 => .inl ⟨h1, h2⟩⟩
    · have ha := h3.pass.at_
      obtain ⟨hXb, _⟩ := h4.rd hr
      refine ⟨h3.pass.lt, fun q hq => .inl ⟨hP.inX q hq, hP.lt q hq⟩, fun q hq => .inr hq, ?_, by show L ≤ 1024; have := hRl.1; omega, h3.pass.here, ?_⟩
      · refine hRl.mono (fun q hq hz => ?_)
        rcases hz with ⟨_, hz⟩ | hz
        · exact .inr ⟨hr, hz⟩
        · omega
      · unfold Stands at *
        rw [hm] at ha
        show match c.m with | .wr => _ | .rd A n cap b => _
        rw [hm]
        obtain ⟨e, i, g1, g2, g3, g4, g5, g6, g7⟩ := ha
        refine ⟨e, i, g1, g2.mono (fun q hq hz => ?_), g3, g4, g5, g6, g7⟩
        rcases hz with ⟨hz, _⟩ | hz
        · exact hz
        · omega
    · exact ⟨h4.lt, h4.cell, fun _ => ⟨.inl ⟨(h4.rd hr).1, hT.lt⟩, (h4.rd hr).2⟩⟩
end

end Go.Proofs.Ytendpbklcgiafaa

/- The walk over klass's class, of whichever pass. -/
namespace Go.Proofs.Ytendpbklcgiafaa
set_option maxRecDepth 100000
open Go.RowKit

section
variable {c : Cx} {w : World} {g b off : Nat} {S : Nat → Prop} {N : Nat} {s : Option (List UInt8)}
/-- What class leaves. -/
def Classed (c : Cx) (w : World) (g : Nat) (S : Nat → Prop) (N : Nat) (s : Option (List UInt8)) (b off : Nat) (f : FileD) (e1 : Ending) (w' : World) : Prop :=
  e1 = .returned (.tuple #[]) ∧ ∃ (c1 : Cx) (S' : Nat → Prop) (s' : Option (List UInt8)) (cs' : List Value) (f' : FileD), c1.m = c.m ∧ PassAt c1 w' g S' (N + 12770000) s' ∧ (∀ q, S' q → S q ∨ w.heap.size ≤ q) ∧ Only (Zs c S b) w w' ∧ Tgt c1 w' b off cs' ∧ fileRep w' (fun q => c.m.isRd = true ∧ c.X q ∧ q < w.heap.size) cs' f' ∧ Stp c.m.isRd fileE s f s' f'

set_option maxHeartbeats 16000000 in
theorem kClass_any (hP : PassAt c w g S N s) (hN : N + 12770000 ≤ 16000000) (hb : ¬ S b) (A : Option Addr) (n cap : Nat) (uf um : Value) (f : FileD) (hT : Tgt c w b off [.slice A n cap, .int .i64 f.this, .int .i64 f.super, uf, um]) (hok : ∀ x ∈ f.pool, x.ok)
    (hwr : c.m.isRd = false → RowSl Cst.cells 5 w c.X A n cap f.pool ∧ SmallP f.pool) (hrd : c.m.isRd = true → A = none ∧ n = 0 ∧ cap = 0 ∧ f.pool = []) (hRf : (rowT fieldT).rep w (Zs c S b) [uf] f.fields) (hbf : c.m.isRd = true → uf = .slice none 0 0 ∧ f.fields = [])
    (hRm : (rowT methD).rep w (Zs c S b) [um] f.meths) (hbm : c.m.isRd = true → um = .slice none 0 0 ∧ f.meths = []) :
    Calls Try.prog 16 #[c.m.v g, .pointer (some ⟨b, off, none⟩)] w (Classed c w g S N s b off f) := by
  obtain ⟨fp, x0, y0, lf, lm⟩ := f
  simp only at hT hok hwr hrd hRf hbf hRm hbm
  have hO : Ov c w g S b off 5 w S N s [.slice A n cap, .int .i64 x0, .int .i64 y0, uf, um] := Ov.start hP hT rfl hb
  have rP := fun W => reach_pool c.m g W
  have nP := fun W => nil_pool c.m g W
  have eP := fun args W => enter_pool c.m W args
  have HO0 := Lib.hid hO
  have Hok := Lib.hid hok
  have Hwr := Lib.hid hwr
  have Hrd := Lib.hid hrd
  have HRf : Hid ((rowT fieldT).rep w (Zs c S b) [uf] lf) := Lib.hid hRf
  have HRm : Hid ((rowT methD).rep w (Zs c S b) [um] lm) := Lib.hid hRm
  have Hbf := Lib.hid hbf
  have Hbm := Lib.hid hbm
  obtain ⟨T, hTy⟩ : ∃ T, T = c.m.T := ⟨_, rfl⟩
  obtain ⟨fP, hfP⟩ : ∃ fP, fP = c.m.fP := ⟨_, rfl⟩
  have hp : c.m.v g = .iface T (.pointer (some ⟨g, 0, none⟩)) := by rw [hTy]; rfl
  rw [hp]
  rw [← hTy] at rP nP
  rw [← hfP] at rP eP
  have Hp := Lib.hid hp
  have HfP := Lib.hid hfP
  clear hO hP hT hb hok hwr hrd hRf hRm hbf hbm hTy hfP hp
  go_enter Try.func16, Try.ntmps16
  have C1 := kAlways_any HO0.out.done.pass 51966 51966 rfl (by omega) (by omega)
  rw [Hp.out] at C1
  have HC1 := Lib.hid C1
  clear C1
  go_wp2_with fail
  refine HC1.out.mono ?_
  rintro e w1 ⟨rfl, S1, s1, hP1, hs1, hO1, hS1⟩
  have HO1 := Lib.hid (HO0.out.went hP1 hs1 hO1)
  have HS1 := Lib.hid hS1
  clear hP1 hs1 hO1 hS1 HC1
  have C2 := kAlways_any HO1.out.done.pass 47806 47806 rfl (by omega) (by omega)
  rw [Hp.out] at C2
  have HC2 := Lib.hid C2
  clear C2
  go_wp2_with fail
  refine HC2.out.mono ?_
  rintro e w2 ⟨rfl, S2, s2, hP2, hs2, hO2, hS2⟩
  have HO2 := Lib.hid (HO1.out.went hP2 hs2 hO2)
  have HS2 := Lib.hid hS2
  clear hP2 hs2 hO2 hS2 HC2
  have C3 := kAlways_any HO2.out.done.pass 0 0 rfl (by omega) (by omega)
  rw [Hp.out] at C3
  have HC3 := Lib.hid C3
  clear C3
  go_wp2_with fail
  refine HC3.out.mono ?_
  rintro e w3 ⟨rfl, S3, s3, hP3, hs3, hO3, hS3⟩
  have HO3 := Lib.hid (HO2.out.went hP3 hs3 hO3)
  have HS3 := Lib.hid hS3
  clear hP3 hs3 hO3 hS3 HC3
  have C4 := kAlways_any HO3.out.done.pass 45 45 rfl (by omega) (by omega)
  rw [Hp.out] at C4
  have HC4 := Lib.hid C4
  clear C4
  go_wp2_with fail
  refine HC4.out.mono ?_
  rintro e w4 ⟨rfl, S4, s4, hP4, hs4, hO4, hS4⟩
  have HO4 := Lib.hid (HO3.out.went hP4 hs4 hO4)
  have HS4 := Lib.hid hS4
  clear hP4 hs4 hO4 hS4 HC4
  go_wp2_with fail
  refine wp_region_held_drew (S := fun _ => True) (by kernel_rfl) trivial (fun hHeld0 => ?_)
  refine take_yes 0 13 ?_ rfl rfl (by kernel_rfl) (by kernel_rfl) (by kernel_rfl) (fun _ _ _ h => h) (by kernel_rfl) ?_ (by assumption) ?_; rotate_left; (focus (intro w hSw; (try dsimp only at hSw); go_simp; all_goals first | with_reducible rfl)); simp only [Act.put, List.setIfInBounds_toArray, List.set_cons_zero, List.set_cons_succ]
  refine take_yes 1 14 ?_ rfl rfl (by kernel_rfl) (by kernel_rfl) (by kernel_rfl) (fun _ _ _ h => h) (by kernel_rfl) ?_ (by assumption) ?_; rotate_left; (focus (intro w hSw; (try dsimp only at hSw); go_simp; all_goals first | with_reducible rfl)); simp only [Act.put, List.setIfInBounds_toArray, List.set_cons_zero, List.set_cons_succ]
  refine take_yes 2 15 ?_ rfl rfl (by kernel_rfl) (by kernel_rfl) (by kernel_rfl) (fun _ _ _ h => h) (by kernel_rfl) ?_ (by assumption) ?_; rotate_left; (focus (intro w hSw; (try dsimp only at hSw); go_simp; all_goals first | with_reducible rfl)); simp only [Act.put, List.setIfInBounds_toArray, List.set_cons_zero, List.set_cons_succ]
  refine take_yes 3 16 ?_ rfl rfl (by kernel_rfl) (by kernel_rfl) (by kernel_rfl) (fun _ _ _ h => h) (by kernel_rfl) ?_ (by assumption) ?_; rotate_left; (focus (intro w hSw; (try dsimp only at hSw); go_simp; all_goals first | with_reducible rfl)); simp only [Act.put, List.setIfInBounds_toArray, List.set_cons_zero, List.set_cons_succ]
  refine take_yes 4 17 ?_ rfl rfl (by kernel_rfl) (by kernel_rfl) (by kernel_rfl) (fun _ _ _ h => h) (by kernel_rfl) ?_ (by assumption) ?_; rotate_left; (focus (intro w hSw; (try dsimp only at hSw); go_simp; all_goals first | with_reducible rfl)); simp only [Act.put, List.setIfInBounds_toArray, List.set_cons_zero, List.set_cons_succ]
  refine take_yes 5 18 ?_ rfl rfl (by kernel_rfl) (by kernel_rfl) (by kernel_rfl) (fun _ _ _ h => h) (by kernel_rfl) ?_ (by assumption) ?_; rotate_left; (focus (intro w hSw; (try dsimp only at hSw); go_simp; all_goals first | with_reducible rfl)); simp only [Act.put, List.setIfInBounds_toArray, List.set_cons_zero, List.set_cons_succ]
  refine take_yes 6 19 ?_ rfl rfl (by kernel_rfl) (by kernel_rfl) (by kernel_rfl) (fun _ _ _ h => h) (by kernel_rfl) ?_ (by assumption) ?_; rotate_left; (focus (intro w hSw; (try dsimp only at hSw); go_simp; all_goals first | with_reducible rfl)); simp only [Act.put, List.setIfInBounds_toArray, List.set_cons_zero, List.set_cons_succ]
  refine wpAnyH_ready (rs := [7]) (by kernel_rfl) (by simp) ?_
  refine AllReadyH.cons rfl (fun K hK => ?_) AllReadyH.nil
  go_simp
  have hOd := HO4.out.only ((Only.refl Empty w4).drew)
  have C5 := mdPool_any hOd.done.pass (by omega) hOd.out A n cap fp (hOd.cellAt 0 rfl).1 Hok.out (fun hr => ⟨(Hwr.out hr).1.only hOd.done.only (fun q _ hz => Zs.inX HO0.out.done.pass (fun h => by rw [hr] at h; cases h) q hz), (Hwr.out hr).2⟩) Hrd.out
  rw [← HfP.out, Nat.add_zero] at C5
  refine C5.mono ?_
  rintro e w5 ⟨rfl, c1, S5, s5, hm1, hP5, hs5, hO5, hr5, hT5, hok5, hS5, hX5⟩
  have hT5' : Tgt c1 w5 b off [c1.cv, .int .i64 x0, .int .i64 y0, uf, um] := by
    refine ⟨hT5.lt, fun i v hv => ?_, hT5.rd⟩
    match i, hv with
    | 0, hv => exact hT5.cell 0 v hv
    | i + 1, hv =>
      rw [hr5 _ (.inr (by omega))]
      exact hOd.tgt.cell (i + 1) v hv
  have hb5 : ¬ S5 b := fun h => by
    rcases hs5 b h with h | h
    · exact hOd.out h
    · have := hOd.tgt.lt; omega
  have hO50 : Only (Zs c S b) w w5 := hOd.done.only.trans' hO5 (Zs.mono hOd.done.sub)
  have hs50 : ∀ q, S5 q → S q ∨ w.heap.size ≤ q := fun q hq => by
    rcases hs5 q hq with h | h
    · exact hOd.done.sub q h
    · exact .inr (Nat.le_trans hOd.done.only.size h)
  have eZ : ∀ (S : Nat → Prop) b, Zs c1 S b = Zs c S b := fun S b => by unfold Zs; rw [hm1]
  have hRf5 : (rowT fieldT).rep w5 (Zs c1 S5 b) [uf] lf := by rw [eZ]; exact (rowT fieldT).next HRf.out hO50 (Zs.mono hs50)
  have hRm5 : (rowT methD).rep w5 (Zs c1 S5 b) [um] lm := by rw [eZ]; exact (rowT methD).next HRm.out hO50 (Zs.mono hs50)
  have Hbf5 : Hid (c1.m.isRd = true → uf = .slice none 0 0 ∧ lf = []) := Lib.hid (by rw [hm1]; exact Hbf.out)
  have Hbm5 : Hid (c1.m.isRd = true → um = .slice none 0 0 ∧ lm = []) := Lib.hid (by rw [hm1]; exact Hbm.out)
  have HO5 : Hid (Ov c1 w5 g S5 b off 5 w5 S5 (N + 2 + 2 + 2 + 2 + 6000000) s5 [c1.cv, .int .i64 x0, .int .i64 y0, uf, um]) := Lib.hid (Ov.start hP5 hT5' rfl hb5)
  have HRf5 := Lib.hid hRf5
  have HRm5 := Lib.hid hRm5
  have HO50 := Lib.hid hO50
  have Hs50 := Lib.hid hs50
  have HS5 := Lib.hid hS5
  have Hok5 := Lib.hid hok5
  have HX5 : Hid (c.m.isRd = true → ∀ q, c.X q → q < w.heap.size → c1.X q) := Lib.hid (fun h q h1 h2 => hX5 h q h1 (Nat.lt_of_lt_of_le h2 hOd.done.only.size))
  have HM1 := Lib.hid hm1
  have HeZ := Lib.hid eZ
  have Hlen : Hid (c1.C.length ≤ 1024) := Lib.hid hP5.len
  have hp1 : c1.m.v g = .iface T (.pointer (some ⟨g, 0, none⟩)) := by rw [hm1]; exact Hp.out
  have Hp1 := Lib.hid hp1
  obtain ⟨cA, cn, cc, hcv⟩ : ∃ A n cap, c1.cv = .slice A n cap := ⟨_, _, _, rfl⟩
  have Hcv := Lib.hid hcv
  have l5 : w5.cell? ⟨b, off, none⟩ = some (.slice cA cn cc) := by have := HO5.out.tgt.cell 0 _ rfl; rw [hcv] at this; rwa [Nat.add_zero] at this
  clear hOd C5 hP5 hs5 hO5 hr5 hT5 hT5' hok5 hS5 hX5 hb5 hO50 hs50 eZ hRf5 hRm5 hm1 hp1 hcv
  go_wp2_with fail
  refine hK.out _ _ (trivial) (fun _ => ?_)
  clear hK K
  try simp only [Act.put, List.setIfInBounds_toArray, List.set_cons_zero, List.set_cons_succ]
  refine wpAnyH_done (by kernel_rfl) ?_ _
  have C6 := kAlways_any HO5.out.done.pass 33 33 rfl (by omega) (by omega)
  rw [Hp1.out] at C6
  have HC6 := Lib.hid C6
  clear C6
  go_wp2_with fail
  refine HC6.out.mono ?_
  rintro e w6 ⟨rfl, S6, s6, hP6, hs6, hO6, hS6⟩
  have HO6 : Hid (Ov c1 w5 g S5 b off 5 w6 S6 (N + 2 + 2 + 2 + 2 + 6000000 + 2) s6 [c1.cv, .int .i64 x0, .int .i64 y0, uf, um]) := Lib.hid (HO5.out.went hP6 hs6 hO6)
  have HS6 := Lib.hid hS6
  have HW6 : Hid (Only S5 w5 w6 ∧ ∀ q, S6 q → S5 q ∨ w5.heap.size ≤ q) := Lib.hid ⟨hO6, hs6⟩
  clear hP6 hs6 hO6 hS6 HC6
  have C7 := HO6.out.numClass 1 rfl (by omega)
  rw [Hp1.out, Hcv.out] at C7
  have HC7 := Lib.hid C7
  clear C7
  go_wp2_with fail
  refine HC7.out.mono ?_
  rintro e w7 ⟨rfl, S7, s7, x1, hO7, hS7⟩
  have HO7 : Hid (Ov c1 w5 g S5 b off 5 w7 S7 (N + 2 + 2 + 2 + 2 + 6000000 + 2 + 2) s7 [c1.cv, .int .i64 x1, .int .i64 y0, uf, um]) := Lib.hid (by rw [Hcv.out]; exact hO7)
  have HS7 := Lib.hid hS7
  clear hO7 hS7 HC7
  have C8 := HO7.out.numClsNone 2 rfl (by omega)
  rw [Hp1.out, Hcv.out] at C8
  have HC8 := Lib.hid C8
  clear C8
  go_wp2_with fail
  refine HC8.out.mono ?_
  rintro e w8 ⟨rfl, S8, s8, y1, hO8, hS8⟩
  have HO8 : Hid (Ov c1 w5 g S5 b off 5 w8 S8 (N + 2 + 2 + 2 + 2 + 6000000 + 2 + 2 + 2) s8 [c1.cv, .int .i64 x1, .int .i64 y1, uf, um]) := Lib.hid (by rw [Hcv.out]; exact hO8)
  have HS8 := Lib.hid hS8
  clear hO8 hS8 HC8
  have C9 := kAlways_any HO8.out.done.pass 0 0 rfl (by omega) (by omega)
  rw [Hp1.out] at C9
  have HC9 := Lib.hid C9
  clear C9
  go_wp2_with fail
  refine HC9.out.mono ?_
  rintro e w9 ⟨rfl, S9, s9, hP9, hs9, hO9, hS9⟩
  have HO9 : Hid (Ov c1 w5 g S5 b off 5 w9 S9 (N + 2 + 2 + 2 + 2 + 6000000 + 2 + 2 + 2 + 2) s9 [c1.cv, .int .i64 x1, .int .i64 y1, uf, um]) := Lib.hid (HO8.out.went hP9 hs9 hO9)
  have HS9 := Lib.hid hS9
  have HW9 : Hid (Only S8 w8 w9 ∧ ∀ q, S9 q → S8 q ∨ w8.heap.size ≤ q) := Lib.hid ⟨hO9, hs9⟩
  clear hP9 hs9 hO9 hS9 HC9
  have t10 := (HO9.out.cellAt 3 rfl).1
  have C10 := kRowField_any (c := c1) 64 (by omega) 64 rfl (kField_item c1) rfl (Uniq.field c1.C Hlen.out) (by omega) ⟨0, 0, 0⟩ field_z trivial enter_field HO9.out.done.pass (by omega) HO9.out.out t10 (HO9.out.rep0 HRf5.out) Hbf5.out
  rw [Hp1.out, Hcv.out] at C10
  have HC10 := Lib.hid C10
  clear C10
  go_wp2_with fail
  refine HC10.out.mono ?_
  rintro e w10 ⟨rfl, S10, s10, cs10, lf1, hD10, hT10, hR10, hS10⟩
  obtain ⟨uf1, rfl⟩ := one_cell (R := rowT fieldT) rfl hR10
  have HO10 : Hid (Ov c1 w5 g S5 b off 5 w10 S10 (N + 2 + 2 + 2 + 2 + 6000000 + 2 + 2 + 2 + 2 + (2 + 64 * 8)) s10 [c1.cv, .int .i64 x1, .int .i64 y1, uf1, um]) := Lib.hid (HO9.out.put 3 rfl hD10 hT10)
  have HD10 := Lib.hid hD10
  have HR10 := Lib.hid hR10
  have HS10 := Lib.hid hS10
  clear hD10 hT10 hR10 hS10 HC10 t10
  have t11 := (HO10.out.cellAt 4 rfl).1
  have C11 := kRowMethod_any (c := c1) 64 (by omega) 64 rfl (kMethod_item c1) rfl (Uniq.meth c1.C Hlen.out) (by omega) zeroMeth meth_z meth_b enter_method HO10.out.done.pass (by omega) HO10.out.out t11 (HO10.out.rep0 HRm5.out) Hbm5.out
  rw [Hp1.out, Hcv.out] at C11
  have HC11 := Lib.hid C11
  clear C11
  go_wp2_with fail
  refine HC11.out.mono ?_
  rintro e w11 ⟨rfl, S11, s11, cs11, lm1, hD11, hT11, hR11, hS11⟩
  obtain ⟨um1, rfl⟩ := one_cell (R := rowT methD) rfl hR11
  have HO11 : Hid (Ov c1 w5 g S5 b off 5 w11 S11 (N + 2 + 2 + 2 + 2 + 6000000 + 2 + 2 + 2 + 2 + (2 + 64 * 8) + (2 + 64 * 105620)) s11 [c1.cv, .int .i64 x1, .int .i64 y1, uf1, um1]) := Lib.hid (HO10.out.put 4 rfl hD11 hT11)
  have HD11 := Lib.hid hD11
  have HR11 := Lib.hid hR11
  have HS11 := Lib.hid hS11
  clear hD11 hT11 hR11 hS11 HC11 t11
  have C12 := kAlways_any HO11.out.done.pass 0 0 rfl (by omega) (by omega)
  rw [Hp1.out] at C12
  have HC12 := Lib.hid C12
  clear C12
  go_wp2_with fail
  refine HC12.out.mono ?_
  rintro e w12 ⟨rfl, S12, s12, hP12, hs12, hO12, hS12⟩
  have HO12 : Hid (Ov c1 w5 g S5 b off 5 w12 S12 (N + 2 + 2 + 2 + 2 + 6000000 + 2 + 2 + 2 + 2 + (2 + 64 * 8) + (2 + 64 * 105620) + 2) s12 [c1.cv, .int .i64 x1, .int .i64 y1, uf1, um1]) := Lib.hid (HO11.out.went hP12 hs12 hO12)
  have HS12 := Lib.hid hS12
  have HW12 : Hid (Only S11 w11 w12 ∧ ∀ q, S12 q → S11 q ∨ w11.heap.size ≤ q) := Lib.hid ⟨hO12, hs12⟩
  clear hP12 hs12 hO12 hS12 HC12
  go_wp2
  go_end0
  have hD := HO12.out.done
  have hO12 := hD.only
  rw [HeZ.out] at hO12
  refine ⟨rfl, c1, S12, s12, _, ⟨c1.C, x1, y1, lf1, lm1⟩, HM1.out, hD.pass.more (by omega), fun q hq => ?_, HO50.out.trans' hO12 (Zs.mono Hs50.out), HO12.out.tgt, ⟨c1.cv, uf1, um1, rfl, ⟨c1.A, c1.n, c1.cap, rfl, hD.pass.pool.mono (fun q _ h => HX5.out h.1 q h.2.1 h.2.2), Hok5.out⟩, ?_, ?_⟩, ?_⟩
  · rcases hD.sub q hq with h | h
    · exact Hs50.out q h
    · exact .inr (Nat.le_trans HO50.out.size h)
  · have h := rep_on (H' := w5.heap.size) HR10.out HD11.out.only (fun _ => Nat.lt_of_lt_of_le HO5.out.tgt.lt HO9.out.done.only.size) HD11.out.sub HO9.out.done.only.size
    have h2 := rep_on (H' := w.heap.size) h (HW12.out.1.mono (fun _ _ h => .inl h) : Only (Zs c1 S11 b) w11 w12) (fun _ => HO5.out.tgt.lt) HW12.out.2 HO50.out.size
    exact (rowT fieldT).next h2 (Only.refl _ _) (fun q _ h => .inr ⟨by rw [HM1.out]; exact h.1, h.2.2⟩)
  · have h := rep_on (H' := w.heap.size) HR11.out (HW12.out.1.mono (fun _ _ h => .inl h) : Only (Zs c1 S11 b) w11 w12) (fun _ => Nat.lt_of_lt_of_le HO5.out.tgt.lt HO10.out.done.only.size) HW12.out.2 (Nat.le_trans HO50.out.size HO10.out.done.only.size)
    exact (rowT methD).next h (Only.refl _ _) (fun q _ h => .inr ⟨by rw [HM1.out]; exact h.1, h.2.2⟩)
  · have hh : Stp c.m.isRd headE s ((), (), (), ()) s4 ((), (), (), ()) := Stp.seq (Uniq.just 2 _) HS1.out (Stp.seq (Uniq.just 2 _) HS2.out (Stp.seq (Uniq.just 2 _) HS3.out HS4.out))
    have hr : Stp c1.m.isRd (restE c1.C) s5 ((), x0, y0, (), lf, lm, ()) s12 ((), x1, y1, (), lf1, lm1, ()) :=
      Stp.seq (Uniq.just 2 _) HS6.out (Stp.seq (Uniq.kind (fits_class (c := cxOf c1.C) Hlen.out)) HS7.out (Stp.seq (Uniq.kind (fits_clsNone (c := cxOf c1.C) Hlen.out)) HS8.out (Stp.seq (Uniq.just 2 _) HS9.out (Stp.seq ((Uniq.field c1.C Hlen.out).row (by omega)) HS10.out (Stp.seq ((Uniq.meth c1.C Hlen.out).row (by omega)) HS11.out HS12.out)))))
    rw [HM1.out] at hr
    exact Stp.map (g := fun f : FileD => (((), (), (), ()), f.pool, (), f.this, f.super, (), f.fields, f.meths, ())) (v := ⟨fp, x0, y0, lf, lm⟩) (v' := ⟨c1.C, x1, y1, lf1, lm1⟩) file_inj (Stp.seq Uniq.head hh (Stp.seq (f := fun C => restE C) Uniq.pool HS5.out hr))
end

end Go.Proofs.Ytendpbklcgiafaa

/- The walks over klass.Bytes, Check, Parse. -/
namespace Go.Proofs.Ytendpbklcgiafaa
set_option maxRecDepth 100000
open Go.RowKit

/-- Whatever lies below the heap's end lies in no block from there on. -/
theorem rep_old {α : Type} {R : RepT α} {w : World} {Z : Nat → Prop} {cs : List Value} {v : α} (h : R.rep w Z cs v) : R.rep w (fun q => w.heap.size ≤ q) cs v := R.next h (Only.refl _ _) (fun q hq hz => by have hz : w.heap.size ≤ q := hz; omega)
theorem fileRep_next {w w' : World} {Z Z' S : Nat → Prop} {cs : List Value} {f : FileD} (h : fileRep w Z cs f) (k : Only S w w') (hZ : ∀ q, q < w.heap.size → Z' q → Z q) (hS : ∀ q, q < w.heap.size → S q → Z q) : fileRep w' Z' cs f := by
  obtain ⟨up, uf, um, rfl, h1, h2, h3⟩ := h
  exact ⟨up, uf, um, rfl, poolT.next h1 (k.mono hS) hZ, (rowT fieldT).next h2 (k.mono hS) hZ, (rowT methD).next h3 (k.mono hS) hZ⟩
/-- What Bytes answers. -/
def KBytes (f : FileD) (w : World) (e : Ending) (w' : World) : Prop :=
  (match fileE f with
    | some x => ∃ A cap, e = .returned (.tuple #[.slice A x.length cap, .int .i64 0]) ∧ ByteSl w' Empty A x.length cap x ∧ (A = none → x.length = 0 ∧ cap = 0)
    | none => e = .returned (.tuple #[.slice none 0 0, .int .i64 8])) ∧ Below w.heap.size w w'

set_option maxHeartbeats 4000000 in
theorem kBytes_any (A : Option Addr) (n cap : Nat) (uf um : Value) (f : FileD) (w : World) (hp : PoolSl w A n cap f.pool) (hok : ∀ x ∈ f.pool, x.ok) (hs : SmallP f.pool) (hf : (rowT fieldT).rep w Empty [uf] f.fields) (hm : (rowT methD).rep w Empty [um] f.meths) :
    Calls Try.prog 7 #[.agg #[.slice A n cap, .int .i64 f.this, .int .i64 f.super, uf, um]] w (KBytes f w) := by
  obtain ⟨c, hc⟩ : ∃ c : Cx, c = ⟨.wr, fun q => w.heap.size ≤ q, none, 0, 0, []⟩ := ⟨_, rfl⟩
  have hcm : c.m = .wr := by rw [hc]
  have hcr : c.m.isRd = false := by rw [hc]; rfl
  have hcX : c.X = fun q => w.heap.size ≤ q := by rw [hc]
  obtain ⟨W, hW⟩ : ∃ W, W = (w.alloc (.cells #[.slice A n cap, .int .i64 f.this, .int .i64 f.super, uf, um] 26)).alloc (.cells #[.int .i64 0, .slice none 0 0] 57) := ⟨_, rfl⟩
  have hO : Only Empty w W := by rw [hW]; exact ((Only.refl Empty w).alloc _).alloc _
  have hsz : W.heap.size = w.heap.size + 1 + 1 := by rw [hW]; simp
  have hBf : Blk W w.heap.size 26 #[.slice A n cap, .int .i64 f.this, .int .i64 f.super, uf, um] := by rw [hW]; exact (Blk.new w 26 _).alloc _
  have hBw : Blk W (w.heap.size + 1) 57 #[.int .i64 0, .slice none 0 0] := by
    have h := Blk.new (w.alloc (.cells #[.slice A n cap, .int .i64 f.this, .int .i64 f.super, uf, um] 26)) 57 #[.int .i64 0, .slice none 0 0]
    have hs : (w.alloc (.cells #[.slice A n cap, .int .i64 f.this, .int .i64 f.super, uf, um] 26)).heap.size = w.heap.size + 1 := by simp
    rw [hs] at h
    rw [hW]
    exact h
  have hP : PassAt c W (w.heap.size + 1) (fun q => q = w.heap.size + 1) 0 (some []) := by
    refine ⟨fun q hq => hq ▸ hBw.lt, fun q hq => by rw [hcX]; show w.heap.size ≤ q; omega, fun q hq => by rw [hcX]; show w.heap.size ≤ q; omega, ?_, by rw [hc]; show 0 ≤ 1024; omega, rfl, ?_⟩
    · rw [hc]; exact RowSl.nil_ _ _ _ _ (by show 0 ≤ maxLen; unfold maxLen; omega)
    · unfold Stands
      rw [hcm]
      exact ⟨0, none, 0, 0, [], hBw, World.ownsRow_nil _ _ _ _, Nat.le_refl _, .inl rfl, rfl, fun q => by simp [Value.ownBlock]⟩
  have hT : Tgt c W w.heap.size 0 [.slice A n cap, .int .i64 f.this, .int .i64 f.super, uf, um] := ⟨hBf.lt, fun i v hv => by rw [Nat.zero_add, hBf.cell]; simpa using hv, fun h => by rw [hcr] at h; cases h⟩
  have hZ : ∀ q, q < w.heap.size → Zs c (fun q => q = w.heap.size + 1) w.heap.size q → w.heap.size ≤ q := fun q _ hz => by
    rcases hz with hz | ⟨h1, _⟩
    · have hz : q = w.heap.size + 1 := hz; omega
    · rw [hcr] at h1; cases h1
  have C := kClass_any hP (by omega) (fun h => by have h : w.heap.size = w.heap.size + 1 := h; omega) A n cap uf um f hT hok (fun _ => ⟨by
      rw [hcX]
      exact (hp.mono (T := fun q => w.heap.size ≤ q) (fun q hq h => by have h : w.heap.size ≤ q := h; omega)).only hO (fun _ _ h => h.elim), hs⟩) (fun h => by rw [hcr] at h; cases h)
    ((rowT fieldT).next (rep_old hf) (hO.mono (fun _ _ h => h.elim)) hZ) (fun h => by rw [hcr] at h; cases h) ((rowT methD).next (rep_old hm) (hO.mono (fun _ _ h => h.elim)) hZ) (fun h => by rw [hcr] at h; cases h)
  have hpv : c.m.v (w.heap.size + 1) = .iface 59 (.pointer (some ⟨w.heap.size + 1, 0, none⟩)) := by rw [hcm]; rfl
  rw [hpv] at C
  have HC := Lib.hid C
  have HW := Lib.hid hW
  have HO := Lib.hid hO
  have Hcm := Lib.hid hcm
  have Hcr := Lib.hid hcr
  clear hc hcX hsz hBf hBw hP hT hZ C hpv hW hO hcm hcr hp hok hs hf hm
  go_enter Try.func7, Try.ntmps7
  go_wp2_with fail
  rw [← HW.out]
  refine HC.out.mono ?_
  rintro e w1 ⟨rfl, c1, S1, s1, cs1, f1, hm1, hP1, hs1, hO1, hT1, hR1, hS1⟩
  have hm1' : c1.m = .wr := hm1.trans Hcm.out
  obtain ⟨e5, B5, k5, cp5, z5, hW5⟩ := hP1.wr_raw hm1'
  rw [Hcr.out] at hS1
  have hst : s1 = fileE f := by
    rw [hS1.2]
    cases fileE f <;> rfl
  have c0 : w1.cell? ⟨w.heap.size + 1, 0, none⟩ = some (.int .i64 e5) := hW5.blk.cell 0
  have c1' : w1.cell? ⟨w.heap.size + 1, 1, none⟩ = some (.slice B5 k5 cp5) := hW5.blk.cell 1
  have hB : Below w.heap.size w w1 := by
    refine ((HO.out.mono (fun _ _ h => h.elim)).trans' (T := fun q => w.heap.size ≤ q) (S := fun q => w.heap.size ≤ q) (hO1.mono (fun q _ hz => ?_)) (fun _ _ h => h)).below (Nat.le_refl _) (fun k hk h => by have h : w.heap.size ≤ k := h; omega)
    rcases hz with hz | ⟨h1, _⟩
    · have hz : q = w.heap.size + 1 := hz; show w.heap.size ≤ q; omega
    · rw [Hcr.out] at h1; cases h1
  have hB5 := ByteSl.of_own (S := Empty) hW5.own (fun _ _ _ h => h)
  obtain ⟨A9, c9, e9, h9, -⟩ := hB5
  cases e9
  have hn9 : B5 = none → k5 = 0 ∧ cp5 = 0 := fun hn => by
    rcases hW5.own.2 with ⟨h, _⟩ | ⟨_, _, _, h, _⟩
    · cases h; exact ⟨rfl, rfl⟩
    · rw [hn] at h; cases h
  have HW5 := Lib.hid hW5
  have Hst := Lib.hid hst
  have HB := Lib.hid hB
  have H9 := Lib.hid h9
  have Hn9 := Lib.hid hn9
  have HP1 := Lib.hid hP1
  clear hm1 hP1 hs1 hO1 hT1 hR1 hS1 hm1' hW5 hst hB h9 hn9 HC
  go_wp2_with fail
  refine (goesOn_any HP1.out).mono ?_
  rintro e2 w2 ⟨rfl, rfl⟩
  by_cases he : e5 = 0
  · subst he
    have h1 := HW5.out.st
    rw [if_pos rfl] at h1
    have hS : s1.isSome = true := by rw [h1]; rfl
    have hF : fileE f = some z5 := by rw [← Hst.out, h1]
    have HF := Lib.hid hF
    rw [hS]
    clear h1 hS hF
    go_wp2
    go_ret2
    refine ⟨?_, HB.out⟩
    rw [HF.out]
    have hz : z5.length = k5 := H9.out.1
    exact ⟨B5, cp5, by rw [hz]; rfl, by rw [hz]; exact H9.out, by rw [hz]; exact Hn9.out⟩
  · have h1 := HW5.out.st
    rw [if_neg he] at h1
    have he8 : e5 = 8 := HW5.out.e08.resolve_left he
    subst he8
    have hS : s1.isSome = false := by rw [h1]; rfl
    have hF : fileE f = none := by rw [← Hst.out, h1]
    have HF := Lib.hid hF
    rw [hS]
    clear h1 hS hF he
    go_wp2
    go_quiet (fail)
    go_wp2
    go_ret2
    refine ⟨?_, HB.out.drewN nq⟩
    rw [HF.out]
    rfl

/-- What Check answers. -/
noncomputable def kCheckC (f : FileD) : Int := if (fileE f).isSome = true then 0 else 8
theorem kCheck_any (A : Option Addr) (n cap : Nat) (uf um : Value) (f : FileD) (w : World) (hp : PoolSl w A n cap f.pool) (hok : ∀ x ∈ f.pool, x.ok) (hs : SmallP f.pool) (hf : (rowT fieldT).rep w Empty [uf] f.fields) (hm : (rowT methD).rep w Empty [um] f.meths) :
    Calls Try.prog 11 #[.agg #[.slice A n cap, .int .i64 f.this, .int .i64 f.super, uf, um]] w fun e w' => e = .returned (.int .i64 (kCheckC f)) ∧ Below w.heap.size w w' := by
  have hE : Only Empty w (w.alloc (.cells #[.slice A n cap, .int .i64 f.this, .int .i64 f.super, uf, um] 26)) := (Only.refl Empty w).alloc _
  have C := Lib.hid (kBytes_any A n cap uf um f (w.alloc (.cells #[.slice A n cap, .int .i64 f.this, .int .i64 f.super, uf, um] 26)) (hp.only hE (fun _ _ h => h)) hok hs ((rowT fieldT).next hf hE (fun _ _ h => h)) ((rowT methD).next hm hE (fun _ _ h => h)))
  have HE : Hid (Below w.heap.size w (w.alloc (.cells #[.slice A n cap, .int .i64 f.this, .int .i64 f.super, uf, um] 26))) := Lib.hid ((Below.refl _ _).alloc (Nat.le_refl _) _)
  obtain ⟨x0, hx0⟩ : ∃ x0, f.this = x0 := ⟨_, rfl⟩
  obtain ⟨y0, hy0⟩ : ∃ y0, f.super = y0 := ⟨_, rfl⟩
  have hC := C.out
  rw [hx0, hy0] at hC HE ⊢
  have HC := Lib.hid hC
  clear hp hok hs hf hm C hC hx0 hy0 hE
  go_enter Try.func11, Try.ntmps11
  go_wp2_with fail
  refine HC.out.mono ?_
  rintro e w1 ⟨h1, hb⟩
  have Hb := Lib.hid (HE.out.trans (hb.mono HE.out.size))
  clear hb
  cases hF : fileE f with
  | none =>
    rw [hF] at h1
    subst h1
    have HK : Hid (kCheckC f = 8) := Lib.hid (by unfold kCheckC; rw [hF]; rfl)
    clear hF
    go_wp2
    go_ret
    exact ⟨by rw [HK.out]; rfl, Hb.out⟩
  | some x =>
    rw [hF] at h1
    obtain ⟨B, cB, rfl, -⟩ := h1
    have HK : Hid (kCheckC f = 0) := Lib.hid (by unfold kCheckC; rw [hF]; rfl)
    obtain ⟨k, hk⟩ : ∃ k, x.length = k := ⟨_, rfl⟩
    rw [hk]
    clear hF hk
    go_wp2
    go_ret
    exact ⟨by rw [HK.out]; rfl, Hb.out⟩

theorem file_ne {f : FileD} {x : List UInt8} (h : fileE f = some x) : x ≠ [] := by
  unfold fileE mapE seqE at h
  rw [Option.bind_eq_some_iff] at h
  obtain ⟨y, hy, h⟩ := h
  rw [Option.map_eq_some_iff] at h
  obtain ⟨z, hz, rfl⟩ := h
  unfold headE seqE at hy
  rw [Option.bind_eq_some_iff] at hy
  obtain ⟨u, hu, hy⟩ := hy
  rw [Option.map_eq_some_iff] at hy
  obtain ⟨v, hv, rfl⟩ := hy
  cases hu
  intro e
  have h9 := congrArg List.length e
  rw [List.length_append, List.length_append, putL_len] at h9
  have : ([] : List UInt8).length = 0 := rfl
  omega
/-- What Parse answers. -/
def KParse (bs : List UInt8) (w : World) (e : Ending) (w' : World) : Prop :=
  ((∃ f cs, Reads fileE bs f [] ∧ e = .returned (.tuple #[.agg cs.toArray, .int .i64 0]) ∧ fileRep w' Empty cs f) ∨
    ((∀ f, ¬ Reads fileE bs f []) ∧ ∃ x : Int, ((x = 6 ∨ x = 8) ∧ (bs = [] → x = 6)) ∧ e = .returned (.tuple #[.agg #[.slice none 0 0, .int .i64 0, .int .i64 0, .slice none 0 0, .slice none 0 0], .int .i64 x]))) ∧ Below w.heap.size w w'
def zFile : FileD := ⟨[], 0, 0, [], []⟩

set_option maxHeartbeats 8000000 in
theorem kParse_any (A : Option Addr) (n cap : Nat) (bs : List UInt8) (w : World) (hB : ByteSl w Empty A n cap bs) (hn : n ≤ 1048576) :
    Calls Try.prog 8 #[.slice A n cap] w (KParse bs w) := by
  obtain ⟨c, hc⟩ : ∃ c : Cx, c = ⟨.rd A n cap bs, fun q => w.heap.size ≤ q, none, 0, 0, []⟩ := ⟨_, rfl⟩
  have hcm : c.m = .rd A n cap bs := by rw [hc]
  have hcr : c.m.isRd = true := by rw [hc]; rfl
  have hcX : c.X = fun q => w.heap.size ≤ q := by rw [hc]
  obtain ⟨W, hW⟩ : ∃ W, W = ((w.alloc (.cells #[.slice none 0 0, .int .i64 0, .int .i64 0, .slice none 0 0, .slice none 0 0] 26)).alloc (.cells #[.int .i64 0, .slice A n cap, .int .i64 0] 62)).alloc (.cells #[.slice none 0 0, .int .i64 0, .int .i64 0, .slice none 0 0, .slice none 0 0] 26) := ⟨_, rfl⟩
  have hO : Only Empty w W := by rw [hW]; exact (((Only.refl Empty w).alloc _).alloc _).alloc _
  have hsz : W.heap.size = w.heap.size + 1 + 1 + 1 := by rw [hW]; simp
  have hBr : Blk W w.heap.size 26 #[.slice none 0 0, .int .i64 0, .int .i64 0, .slice none 0 0, .slice none 0 0] := by rw [hW]; exact ((Blk.new w 26 _).alloc _).alloc _
  have hBw : Blk W (w.heap.size + 1) 62 #[.int .i64 0, .slice A n cap, .int .i64 0] := by
    have h := Blk.new (w.alloc (.cells #[.slice none 0 0, .int .i64 0, .int .i64 0, .slice none 0 0, .slice none 0 0] 26)) 62 #[.int .i64 0, .slice A n cap, .int .i64 0]
    have hs : (w.alloc (.cells #[.slice none 0 0, .int .i64 0, .int .i64 0, .slice none 0 0, .slice none 0 0] 26)).heap.size = w.heap.size + 1 := by simp
    rw [hs] at h
    rw [hW]
    exact h.alloc _
  have hBf : Blk W (w.heap.size + 1 + 1) 26 #[.slice none 0 0, .int .i64 0, .int .i64 0, .slice none 0 0, .slice none 0 0] := by
    have h := Blk.new ((w.alloc (.cells #[.slice none 0 0, .int .i64 0, .int .i64 0, .slice none 0 0, .slice none 0 0] 26)).alloc (.cells #[.int .i64 0, .slice A n cap, .int .i64 0] 62)) 26 #[.slice none 0 0, .int .i64 0, .int .i64 0, .slice none 0 0, .slice none 0 0]
    have hs : ((w.alloc (.cells #[.slice none 0 0, .int .i64 0, .int .i64 0, .slice none 0 0, .slice none 0 0] 26)).alloc (.cells #[.int .i64 0, .slice A n cap, .int .i64 0] 62)).heap.size = w.heap.size + 1 + 1 := by simp
    rw [hs] at h
    rw [hW]
    exact h
  have hP : PassAt c W (w.heap.size + 1) (fun q => q = w.heap.size + 1) 0 (some bs) := by
    refine ⟨fun q hq => hq ▸ hBw.lt, fun q hq => by rw [hcX]; show w.heap.size ≤ q; omega, fun q hq => by rw [hcX]; show w.heap.size ≤ q; omega, ?_, by rw [hc]; show 0 ≤ 1024; omega, rfl, ?_⟩
    · rw [hc]; exact RowSl.nil_ _ _ _ _ (by show 0 ≤ maxLen; unfold maxLen; omega)
    · unfold Stands
      rw [hcm]
      refine ⟨0, 0, hBw, ?_, hn, Nat.zero_le _, ⟨.inl rfl, fun _ => by decide⟩, rfl, fun q => Iff.rfl⟩
      rw [hcX]
      refine ByteSl.only (w := w) (S := fun q => w.heap.size ≤ q) (T := Empty) ?_ hO (fun _ _ h => h.elim)
      exact hB.mono (fun q hq h => by have h : w.heap.size ≤ q := h; omega)
  have hT : Tgt c W (w.heap.size + 1 + 1) 0 [.slice none 0 0, .int .i64 0, .int .i64 0, .slice none 0 0, .slice none 0 0] := ⟨hBf.lt, fun i v hv => by rw [Nat.zero_add, hBf.cell]; simpa using hv, fun _ => ⟨by rw [hcX]; show w.heap.size ≤ _; omega, _, _, hBf⟩⟩
  have C := kClass_any hP (by omega) (fun h => by have h : w.heap.size + 1 + 1 = w.heap.size + 1 := h; omega) none 0 0 (.slice none 0 0) (.slice none 0 0) zFile hT (fun _ h => by cases h) (fun h => by rw [hcr] at h; cases h) (fun _ => ⟨rfl, rfl, rfl, rfl⟩)
    ⟨none, 0, 0, rfl, rowS_nil _ _ _⟩ (fun _ => ⟨rfl, rfl⟩) ⟨none, 0, 0, rfl, rowS_nil _ _ _⟩ (fun _ => ⟨rfl, rfl⟩)
  have hpv : c.m.v (w.heap.size + 1) = .iface 63 (.pointer (some ⟨w.heap.size + 1, 0, none⟩)) := by rw [hcm]; rfl
  rw [hpv] at C
  have HC := Lib.hid C
  have HW := Lib.hid hW
  have HO := Lib.hid hO
  have Hcm := Lib.hid hcm
  have Hcr := Lib.hid hcr
  have HBr := Lib.hid hBr
  have HBl := Lib.hid hB.1
  have HX0 : Hid (∀ q, (q = w.heap.size ∨ q = w.heap.size + 1) → c.m.isRd = true ∧ c.X q ∧ q < W.heap.size) := Lib.hid (fun q h => ⟨hcr, by rw [hcX]; show w.heap.size ≤ q; omega, by rw [hsz]; omega⟩)
  have hnc : n ≤ cap := hB.2.1
  have hcap : cap ≤ 9223372036854775807 := by have h2 := hB.2.2.1; unfold maxLen at h2; omega
  clear hc hcX hsz hBf hBw hP hT C hpv hW hO hcm hcr hBr hB
  go_enter Try.func8, Try.ntmps8
  go_wp2_with fail
  rw [← HW.out]
  refine HC.out.mono ?_
  rintro e w1 ⟨rfl, c1, S1, s1, cs1, f1, hm1, hP1, hs1, hO1, hT1, hR1, hS1⟩
  have hm1' : c1.m = .rd A n cap bs := hm1.trans Hcm.out
  obtain ⟨e5, i5, hB5⟩ := hP1.rd_raw hm1'
  rw [Hcr.out] at hS1
  have d2 : w1.cell? ⟨w.heap.size + 1, 2, none⟩ = some (.int .i64 (i5 : Int)) := hB5.blk.cell 2
  have hZ : ∀ q, Zs c (fun q => q = w.heap.size + 1) (w.heap.size + 1 + 1) q → q = w.heap.size + 1 ∨ q = w.heap.size + 1 + 1 := fun q hz => by
    rcases hz with hz | ⟨_, hz⟩
    · exact .inl hz
    · exact .inr hz
  have hB : Below w.heap.size w w1 := by
    refine ((HO.out.mono (fun _ _ h => h.elim)).trans' (T := fun q => w.heap.size ≤ q) (S := fun q => w.heap.size ≤ q) (hO1.mono (fun q _ hz => ?_)) (fun _ _ h => h)).below (Nat.le_refl _) (fun k hk h => by have h : w.heap.size ≤ k := h; omega)
    show w.heap.size ≤ q
    rcases hZ q hz with h | h <;> omega
  have hBr1 : Blk w1 w.heap.size 26 #[.slice none 0 0, .int .i64 0, .int .i64 0, .slice none 0 0, .slice none 0 0] := hO1.blk HBr.out (fun hz => by rcases hZ _ hz with h | h <;> omega)
  have hdry : bs = [] → c1.dry := fun h => by
    have hl := hB5.bytes.1
    rw [h] at hl
    cases hl
    exact ⟨A, cap, bs, hm1'⟩
  have CA := ask_any hP1 ((i5 : Int) == (n : Int)) (fun hd => .inr (by
    have hbs : bs = [] := by
      obtain ⟨A', cap', b', h2⟩ := hd
      have h3 := hm1'.symm.trans h2
      cases h3
      exact List.length_eq_zero_iff.1 hB5.bytes.1
    rw [hbs] at hS1
    rcases hS1 with ⟨r, _, x, hx, hb⟩ | ⟨h1, _⟩
    · exact absurd (List.append_eq_nil_iff.1 hb.symm).1 (file_ne hx)
    · exact h1))
  have HDry := Lib.hid hdry
  obtain ⟨up, uf, um, rfl, hR2⟩ := hR1
  have hshape : (∃ A n c, up = .slice A n c) ∧ (∃ A n c, uf = .slice A n c) ∧ (∃ A n c, um = .slice A n c) := by
    obtain ⟨⟨a1, a2, a3, e1, _⟩, ⟨b1, b2, b3, e2, _⟩, ⟨d1, d2, d3, e3, _⟩⟩ := hR2
    cases e1
    cases e2
    cases e3
    exact ⟨⟨_, _, _, rfl⟩, ⟨_, _, _, rfl⟩, ⟨_, _, _, rfl⟩⟩
  obtain ⟨⟨a1, a2, a3, rfl⟩, ⟨b1, b2, b3, rfl⟩, ⟨d1, d2', d3, rfl⟩⟩ := hshape
  have HR1 : Hid (fileRep w1 (fun q => c.m.isRd = true ∧ c.X q ∧ q < W.heap.size) [(.slice a1 a2 a3), .int .i64 f1.this, .int .i64 f1.super, (.slice b1 b2 b3), (.slice d1 d2' d3)] f1) := Lib.hid ⟨_, _, _, rfl, hR2⟩
  have HB5 := Lib.hid hB5
  have HS1 := Lib.hid hS1
  have HB := Lib.hid hB
  have HBr1 := Lib.hid hBr1
  have HT1 := Lib.hid hT1
  have HCA := Lib.hid CA
  have hle := hB5.le
  have Hq1 : Hid (¬ S1 (w.heap.size + 1 + 1) ∧ ¬ S1 w.heap.size) := Lib.hid ⟨fun h => by have h := (hB5.S_iff _).1 h; omega, fun h => by have h := (hB5.S_iff _).1 h; omega⟩
  have HS1e : Hid (∀ q, S1 q → q = w.heap.size + 1) := Lib.hid (fun q h => (hB5.S_iff q).1 h)
  have Hlt : Hid (∀ q, S1 q → w.heap.size ≤ q) := Lib.hid (fun q h => by have h := (hB5.S_iff _).1 h; omega)
  clear hm1 hP1 hs1 hO1 hT1 hR2 hS1 hm1' hB5 hB hBr1 CA hZ HC hdry
  go_wp2_with fail
  refine HCA.out.mono ?_
  rintro e2 w2 ⟨rfl, hP2, hO2⟩
  have hB2 : Below w.heap.size w w2 := HB.out.trans (hO2.below HB.out.size (fun k hk h => by have := Hlt.out k h; omega))
  have hb2 : w.heap.size + 1 + 1 < w1.heap.size := HT1.out.lt
  have hT2 : ∀ i v, ([(.slice a1 a2 a3), .int .i64 f1.this, .int .i64 f1.super, (.slice b1 b2 b3), (.slice d1 d2' d3)] : List Value)[i]? = some v → w2.cell? ⟨w.heap.size + 1 + 1, i, none⟩ = some v := fun i v hv =>
    (hO2.cell (p := ⟨w.heap.size + 1 + 1, i, none⟩) hb2 Hq1.out.1).trans (by have h := HT1.out.cell i v hv; rwa [Nat.zero_add] at h)
  obtain ⟨x0, hx0⟩ : ∃ x0, f1.this = x0 := ⟨_, rfl⟩
  obtain ⟨y0, hy0⟩ : ∃ y0, f1.super = y0 := ⟨_, rfl⟩
  have hR2 : fileRep w2 (fun q => q = w.heap.size ∨ q = w.heap.size + 1) [(.slice a1 a2 a3), .int .i64 x0, .int .i64 y0, (.slice b1 b2 b3), (.slice d1 d2' d3)] f1 := by
    rw [← hx0, ← hy0]
    exact fileRep_next HR1.out hO2 (fun q hq h => HX0.out q h) (fun q hq h => HX0.out q (.inr (HS1e.out q h)))
  rw [hx0, hy0] at hT2
  have t0 := hT2 0 _ rfl
  have t1 := hT2 1 _ rfl
  have t2 := hT2 2 _ rfl
  have t3 := hT2 3 _ rfl
  have t4 := hT2 4 _ rfl
  have hBr2 : Blk w2 w.heap.size 26 #[.slice none 0 0, .int .i64 0, .int .i64 0, .slice none 0 0, .slice none 0 0] := hO2.blk HBr1.out Hq1.out.2
  have HBr2 := Lib.hid hBr2
  have hltS := hBr2.lt
  have r0 : w2.cell? ⟨w.heap.size, 0, none⟩ = some (.slice none 0 0) := hBr2.cell 0
  have r1 : w2.cell? ⟨w.heap.size, 1, none⟩ = some (.int .i64 0) := hBr2.cell 1
  have r2 : w2.cell? ⟨w.heap.size, 2, none⟩ = some (.int .i64 0) := hBr2.cell 2
  have r3 : w2.cell? ⟨w.heap.size, 3, none⟩ = some (.slice none 0 0) := hBr2.cell 3
  have r4 : w2.cell? ⟨w.heap.size, 4, none⟩ = some (.slice none 0 0) := hBr2.cell 4
  have g0 := hBr2.frozen 0
  have g1 := hBr2.frozen 1
  have g2 := hBr2.frozen 2
  have g3 := hBr2.frozen 3
  have g4 := hBr2.frozen 4
  have CG := Lib.hid (goesOn_any hP2)
  obtain ⟨ef, hf0, -, -, -, hfx⟩ := hP2.fault
  have HR2 := Lib.hid hR2
  have Hfx := Lib.hid hfx
  have HB2 := Lib.hid hB2
  clear hR2 hfx hB2 hT2 hP2 hO2 HCA HT1 HBr1 HR1 hb2 hx0 hy0 hBr2
  go_wp2_with fail
  refine CG.out.mono ?_
  rintro e3 w3 ⟨rfl, rfl⟩
  by_cases hok : (if ((i5 : Int) == (n : Int)) = true then s1 else none).isSome = true
  · have hin : i5 = n := by
      refine Decidable.byContradiction fun h => ?_
      rw [if_neg (by simp; omega)] at hok
      cases hok
    subst hin
    rw [if_pos (by simp)] at hok
    have hs1 : s1 = some [] := by
      have h := HB5.out.st
      rw [h] at hok ⊢
      split at hok
      · rename_i he
        rw [if_pos he, List.drop_of_length_le (Nat.le_of_eq HBl.out)]
      · cases hok
    have hRd : Reads fileE bs f1 [] := by
      have h := HS1.out
      rw [hs1] at h
      rcases h with ⟨r, e, h⟩ | ⟨h, _⟩
      · cases e; exact h
      · cases h
    have HRd := Lib.hid hRd
    have hsv : (if ((i5 : Int) == (i5 : Int)) = true then s1 else none).isSome = true := by rw [if_pos (by simp), hs1]; rfl
    rw [hsv]
    clear hok hs1 hRd hsv CG
    go_wp2
    refine bodyPost_ret (v := .tuple #[.agg #[(.slice a1 a2 a3), .int .i64 x0, .int .i64 y0, (.slice b1 b2 b3), (.slice d1 d2' d3)], .int .i64 0]) (by simp [results, Try.results8, go_sem, r0, r1, r2, r3, r4, hltS, Nat.ne_of_lt hltS]) rfl ?_
    refine ⟨.inl ⟨f1, [(.slice a1 a2 a3), .int .i64 x0, .int .i64 y0, (.slice b1 b2 b3), (.slice d1 d2' d3)], HRd.out, rfl, fileRep_next HR2.out ((((((Only.refl (fun q => q = w.heap.size) _).setCell (.inl rfl) _).setCell (.inl rfl) _).setCell (.inl rfl) _).setCell (.inl rfl) _).setCell (.inl rfl) _) (fun _ _ h => h.elim) (fun q _ h => .inl h)⟩, ?_⟩
    exact ((((HB2.out.setCell (Nat.le_refl _) _).setCell (Nat.le_refl _) _).setCell (Nat.le_refl _) _).setCell (Nat.le_refl _) _).setCell (Nat.le_refl _) _
  · have hno : ∀ f, ¬ Reads fileE bs f [] := by
      intro f hf
      have h := HS1.out
      have h5 := HB5.out.st
      rw [h5] at h hok
      split at h
      · rename_i he
        rcases h with ⟨r, e, h⟩ | ⟨_, h⟩
        · cases e
          have e0 := (Uniq.file _ _ _ _ _ hf h).2
          have hl := congrArg List.length e0
          rw [List.length_drop, HBl.out] at hl
          have hin : i5 = n := by have : ([] : List UInt8).length = 0 := rfl; omega
          subst hin
          rw [if_pos (by simp), if_pos he] at hok
          exact hok rfl
        · exact h f [] hf
      · rcases h with ⟨r, e, h⟩ | ⟨_, h⟩
        · cases e
        · exact h f [] hf
    have Hno := Lib.hid hno
    have hsv : (if ((i5 : Int) == (n : Int)) = true then s1 else none).isSome = false := by simpa using hok
    have hef := Hfx.out (by cases h : (if ((i5 : Int) == (n : Int)) = true then s1 else none) with
      | none => rfl
      | some x => rw [h] at hsv; cases hsv)
    have Hef := Lib.hid hef
    rw [hsv]
    clear hok hno hsv hef CG Hfx
    go_wp2
    go_region
    go_wp2
    refine bodyPost_ret (v := .tuple #[.agg #[.slice none 0 0, .int .i64 0, .int .i64 0, .slice none 0 0, .slice none 0 0], .int .i64 ef]) (by simp [results, Try.results8, go_sem, r0, r1, r2, r3, r4, hltS, Nat.ne_of_lt hltS]) rfl ?_
    refine ⟨.inr ⟨Hno.out, ef, ⟨Hef.out.1, fun h => Hef.out.2 (HDry.out h)⟩, rfl⟩, ?_⟩
    exact (((((HB2.out.setCell (Nat.le_refl _) _).setCell (Nat.le_refl _) _).setCell (Nat.le_refl _) _).setCell (Nat.le_refl _) _).setCell (Nat.le_refl _) _).drewN _

end Go.Proofs.Ytendpbklcgiafaa
