/- The walks over klass's field, trap, slot, of whichever pass. -/
import Derived.Test.YtendpbklcgiafaaZap
import Derived.Test.YtendpbklcgiafaaZal
namespace Go.Proofs.Ytendpbklcgiafaa
set_option maxRecDepth 100000
open Go.RowKit

/-- Data that lies in so many cells, and nowhere else. -/
def flatT {α : Type} (cells : α → List Value) (k : Nat) (hk : ∀ v, (cells v).length = k) : RepT α where
  k := k
  rep _ _ cs v := cs = cells v
  len h := by rw [h]; exact hk _
  next h _ _ := h

@[ext] structure FieldD where
  flags : Int
  name : Int
  desc : Int
def FieldD.cells (d : FieldD) : List Value := [.int .i64 d.flags, .int .i64 d.name, .int .i64 d.desc]
def fieldT : RepT FieldD := flatT FieldD.cells 3 (fun _ => rfl)
def fieldE (C : List Cst) : Enc FieldD := mapE (fun d => ((d.flags, d.name, d.desc), ())) (seqE (memE C) (fun _ => justE 2 0))
@[ext] structure TrapD where
  fr : Int
  til : Int
  at_ : Int
  cls : Int
def TrapD.cells (d : TrapD) : List Value := [.int .i64 d.fr, .int .i64 d.til, .int .i64 d.at_, .int .i64 d.cls]
def trapT : RepT TrapD := flatT TrapD.cells 4 (fun _ => rfl)
def trapE (C : List Cst) : Enc TrapD := mapE (fun d => (d.fr, d.til, d.at_, d.cls)) (seqE (kindE (upToC 65535) 2) (fun _ => seqE (kindE (upToC 65535) 2) (fun _ => seqE (kindE (upToC 65535) 2) (fun _ => kindE (isClsNoneC C) 2))))
@[ext] structure SlotD where
  tag : Int
  a : Int
def SlotD.cells (d : SlotD) : List Value := [.int .i64 d.tag, .int .i64 d.a]
def slotT : RepT SlotD := flatT SlotD.cells 2 (fun _ => rfl)
def slotE (C : List Cst) : Enc SlotD := mapE (fun d => (d.tag, d.a)) (seqE (kindE isMapTagC 1) (fun t => if t = 7 then kindE (isClassC C) 2 else nilE (fun a : Int => decide (a = 0))))

def cxOf (C : List Cst) : Cx := ⟨.wr, fun _ => True, none, 0, 0, C⟩
theorem fits_tag : Fits isMapTagC 1 := ⟨by omega, fun v hv => by
  unfold isMapTagC at hv
  simp only [Bool.or_eq_true, decide_eq_true_eq] at hv
  have e : (256 ^ 1 : Nat) = 256 := rfl
  omega⟩
theorem zero_one (a b : Int) (h : decide (a = 0) = true) (h2 : decide (b = 0) = true) : a = b := by
  rw [of_decide_eq_true h, of_decide_eq_true h2]
theorem Uniq.field (C : List Cst) (h : C.length ≤ 1024) : Uniq (fieldE C) :=
  ((Uniq.mem C h).seq (fun _ => Uniq.just 2 0)).map (fun a b h => by
    obtain ⟨h1, h2, h3⟩ : a.flags = b.flags ∧ a.name = b.name ∧ a.desc = b.desc := by simpa using h
    exact FieldD.ext h1 h2 h3)
theorem Uniq.trap (C : List Cst) (h : C.length ≤ 1024) : Uniq (trapE C) :=
  ((Uniq.kind (fits_up 65535 (by omega))).seq (fun _ => (Uniq.kind (fits_up 65535 (by omega))).seq (fun _ => (Uniq.kind (fits_up 65535 (by omega))).seq (fun _ => Uniq.kind (fits_clsNone (c := cxOf C) h))))).map (fun a b h => by
    obtain ⟨h1, h2, h3, h4⟩ : a.fr = b.fr ∧ a.til = b.til ∧ a.at_ = b.at_ ∧ a.cls = b.cls := by simpa using h
    exact TrapD.ext h1 h2 h3 h4)
theorem Uniq.slot2 (C : List Cst) (h : C.length ≤ 1024) (t : Int) : Uniq (if t = 7 then kindE (isClassC C) 2 else nilE (fun a : Int => decide (a = 0))) := by
  split
  · exact Uniq.kind (fits_class (c := cxOf C) h)
  · exact Uniq.nil_ zero_one
theorem Uniq.slot (C : List Cst) (h : C.length ≤ 1024) : Uniq (slotE C) :=
  ((Uniq.kind fits_tag).seq (fun t => Uniq.slot2 C h t)).map (fun a b h => by
    obtain ⟨h1, h2⟩ : a.tag = b.tag ∧ a.a = b.a := by simpa using h
    exact SlotD.ext h1 h2)

theorem kField_item (c : Cx) : Item c 32 fieldT (fieldE c.C) 8 (fun _ _ => True) := by
  intro w g S N s b off cs v hP hN hb hT hR _
  have hcs : cs = v.cells := hR
  subst hcs
  have hlen := hP.len
  obtain ⟨f, n, d⟩ := v
  have hO : Ov c w g S b off 3 w S N s [.int .i64 f, .int .i64 n, .int .i64 d] := Ov.start hP hT rfl hb
  have hOd : Ov c w g S b off 3 w.drew S N s [.int .i64 f, .int .i64 n, .int .i64 d] := hO.only ((Only.refl Empty w).drew)
  have C1 := Lib.hid (kMember_any hOd (by omega))
  have hcv : c.cv = .slice c.A c.n c.cap := rfl
  clear hO hOd hP hT hb hR
  obtain ⟨cv, hcv2⟩ : ∃ cv, cv = c.cv := ⟨_, rfl⟩
  obtain ⟨p, hp⟩ : ∃ p, p = c.m.v g := ⟨_, rfl⟩
  rw [← hcv2, ← hp] at C1 ⊢
  have HP : Hid (p = c.m.v g) := Lib.hid hp
  clear hcv hcv2 hp
  go_enter Try.func32, Try.ntmps32
  go_wp2_with fail
  refine wp_region_held_drew (S := fun _ => True) (by kernel_rfl) trivial (fun hHeld0 => ?_)
  refine take_yes 0 6 ?_ rfl rfl (by kernel_rfl) (by kernel_rfl) (by kernel_rfl) (fun _ _ _ h => h) (by kernel_rfl) ?_ (by assumption) ?_; rotate_left; (focus (intro w hSw; (try dsimp only at hSw); go_simp; all_goals first | with_reducible rfl)); simp only [Act.put, List.setIfInBounds_toArray, List.set_cons_zero, List.set_cons_succ]
  refine take_yes 1 7 ?_ rfl rfl (by kernel_rfl) (by kernel_rfl) (by kernel_rfl) (fun _ _ _ h => h) (by kernel_rfl) ?_ (by assumption) ?_; rotate_left; (focus (intro w hSw; (try dsimp only at hSw); go_simp; all_goals first | with_reducible rfl)); simp only [Act.put, List.setIfInBounds_toArray, List.set_cons_zero, List.set_cons_succ]
  refine take_yes 2 8 ?_ rfl rfl (by kernel_rfl) (by kernel_rfl) (by kernel_rfl) (fun _ _ _ h => h) (by kernel_rfl) ?_ (by assumption) ?_; rotate_left; (focus (intro w hSw; (try dsimp only at hSw); go_simp; all_goals first | with_reducible rfl)); simp only [Act.put, List.setIfInBounds_toArray, List.set_cons_zero, List.set_cons_succ]
  refine take_yes 3 9 ?_ rfl rfl (by kernel_rfl) (by kernel_rfl) (by kernel_rfl) (fun _ _ _ h => h) (by kernel_rfl) ?_ (by assumption) ?_; rotate_left; (focus (intro w hSw; (try dsimp only at hSw); go_simp; all_goals first | with_reducible rfl)); simp only [Act.put, List.setIfInBounds_toArray, List.set_cons_zero, List.set_cons_succ]
  refine take_yes 4 10 ?_ rfl rfl (by kernel_rfl) (by kernel_rfl) (by kernel_rfl) (fun _ _ _ h => h) (by kernel_rfl) ?_ (by assumption) ?_; rotate_left; (focus (intro w hSw; (try dsimp only at hSw); go_simp; all_goals first | with_reducible rfl)); simp only [Act.put, List.setIfInBounds_toArray, List.set_cons_zero, List.set_cons_succ]
  refine take_yes 5 11 ?_ rfl rfl (by kernel_rfl) (by kernel_rfl) (by kernel_rfl) (fun _ _ _ h => h) (by kernel_rfl) ?_ (by assumption) ?_; rotate_left; (focus (intro w hSw; (try dsimp only at hSw); go_simp; all_goals first | with_reducible rfl)); simp only [Act.put, List.setIfInBounds_toArray, List.set_cons_zero, List.set_cons_succ]
  refine take_yes 6 12 ?_ rfl rfl (by kernel_rfl) (by kernel_rfl) (by kernel_rfl) (fun _ _ _ h => h) (by kernel_rfl) ?_ (by assumption) ?_; rotate_left; (focus (intro w hSw; (try dsimp only at hSw); go_simp; all_goals first | with_reducible rfl)); simp only [Act.put, List.setIfInBounds_toArray, List.set_cons_zero, List.set_cons_succ]
  refine take_yes 7 13 ?_ rfl rfl (by kernel_rfl) (by kernel_rfl) (by kernel_rfl) (fun _ _ _ h => h) (by kernel_rfl) ?_ (by assumption) ?_; rotate_left; (focus (intro w hSw; (try dsimp only at hSw); go_simp; all_goals first | with_reducible rfl)); simp only [Act.put, List.setIfInBounds_toArray, List.set_cons_zero, List.set_cons_succ]
  refine take_yes 8 14 ?_ rfl rfl (by kernel_rfl) (by kernel_rfl) (by kernel_rfl) (fun _ _ _ h => h) (by kernel_rfl) ?_ (by assumption) ?_; rotate_left; (focus (intro w hSw; (try dsimp only at hSw); go_simp; all_goals first | with_reducible rfl)); simp only [Act.put, List.setIfInBounds_toArray, List.set_cons_zero, List.set_cons_succ]
  refine take_yes 9 15 ?_ rfl rfl (by kernel_rfl) (by kernel_rfl) (by kernel_rfl) (fun _ _ _ h => h) (by kernel_rfl) ?_ (by assumption) ?_; rotate_left; (focus (intro w hSw; (try dsimp only at hSw); go_simp; all_goals first | with_reducible rfl)); simp only [Act.put, List.setIfInBounds_toArray, List.set_cons_zero, List.set_cons_succ]
  refine take_yes 10 16 ?_ rfl rfl (by kernel_rfl) (by kernel_rfl) (by kernel_rfl) (fun _ _ _ h => h) (by kernel_rfl) ?_ (by assumption) ?_; rotate_left; (focus (intro w hSw; (try dsimp only at hSw); go_simp; all_goals first | with_reducible rfl)); simp only [Act.put, List.setIfInBounds_toArray, List.set_cons_zero, List.set_cons_succ]
  refine wpAnyH_ready (rs := [11]) (by kernel_rfl) (by simp) ?_
  refine AllReadyH.cons rfl (fun K hK => ?_) AllReadyH.nil
  go_simp
  refine C1.out.mono ?_
  rintro e w1 ⟨rfl, S1, s1, f', n', d', hO1, hS1⟩
  have HO1 := Lib.hid hO1
  have HS1 := Lib.hid hS1
  have C2 := kAlways_any hO1.done.pass 0 0 rfl (by omega) (by omega)
  rw [← HP.out] at C2
  have C2 := Lib.hid C2
  clear hO1 hS1
  go_wp2_with fail
  refine hK.out _ _ (trivial) (fun _ => ?_)
  clear hK K
  try simp only [Act.put, List.setIfInBounds_toArray, List.set_cons_zero, List.set_cons_succ]
  refine wpAnyH_done (by kernel_rfl) ?_ _
  go_wp2_with fail
  refine C2.out.mono ?_
  rintro e w2 ⟨rfl, S2, s2, hP2, hs2, hO2, hS2⟩
  have HW2 := Lib.hid (HO1.out.went hP2 hs2 hO2)
  have HS2 := Lib.hid hS2
  clear hP2 hs2 hO2 hS2
  go_wp2
  go_end0
  refine ⟨rfl, S2, s2, _, ⟨f', n', d'⟩, ?_, HW2.out.tgt, rfl, ?_⟩
  · exact HW2.out.done
  · exact Stp.map (g := fun d : FieldD => ((d.flags, d.name, d.desc), ())) (fun a b h => by
      obtain ⟨h1, h2, h3⟩ : a.flags = b.flags ∧ a.name = b.name ∧ a.desc = b.desc := by simpa using h
      exact FieldD.ext h1 h2 h3) (Stp.seq (Uniq.mem c.C hlen) HS1.out HS2.out)

set_option maxHeartbeats 1000000 in
theorem kTrap_item (c : Cx) : Item c 56 trapT (trapE c.C) 8 (fun _ _ => True) := by
  intro w g S N s b off cs v hP hN hb hT hR _
  have hcs : cs = v.cells := hR
  subst hcs
  have hlen := hP.len
  obtain ⟨f, n, d, q⟩ := v
  have hO : Ov c w g S b off 4 w S N s [.int .i64 f, .int .i64 n, .int .i64 d, .int .i64 q] := Ov.start hP hT rfl hb
  have HO0 := Lib.hid hO
  clear hO hP hT hb hR
  obtain ⟨cv, hcv⟩ : ∃ cv, cv = c.cv := ⟨_, rfl⟩
  obtain ⟨p, hp⟩ : ∃ p, p = c.m.v g := ⟨_, rfl⟩
  rw [← hcv, ← hp]
  have HP : Hid (p = c.m.v g) := Lib.hid hp
  have HC : Hid (cv = c.cv) := Lib.hid hcv
  clear hcv hp
  go_enter Try.func56, Try.ntmps56
  go_wp2_with fail
  refine wp_region_held_drew (S := fun _ => True) (by kernel_rfl) trivial (fun hHeld0 => ?_)
  refine take_yes 0 6 ?_ rfl rfl (by kernel_rfl) (by kernel_rfl) (by kernel_rfl) (fun _ _ _ h => h) (by kernel_rfl) ?_ (by assumption) ?_; rotate_left; (focus (intro w hSw; (try dsimp only at hSw); go_simp; all_goals first | with_reducible rfl)); simp only [Act.put, List.setIfInBounds_toArray, List.set_cons_zero, List.set_cons_succ]
  refine take_yes 1 7 ?_ rfl rfl (by kernel_rfl) (by kernel_rfl) (by kernel_rfl) (fun _ _ _ h => h) (by kernel_rfl) ?_ (by assumption) ?_; rotate_left; (focus (intro w hSw; (try dsimp only at hSw); go_simp; all_goals first | with_reducible rfl)); simp only [Act.put, List.setIfInBounds_toArray, List.set_cons_zero, List.set_cons_succ]
  refine take_yes 2 8 ?_ rfl rfl (by kernel_rfl) (by kernel_rfl) (by kernel_rfl) (fun _ _ _ h => h) (by kernel_rfl) ?_ (by assumption) ?_; rotate_left; (focus (intro w hSw; (try dsimp only at hSw); go_simp; all_goals first | with_reducible rfl)); simp only [Act.put, List.setIfInBounds_toArray, List.set_cons_zero, List.set_cons_succ]
  refine take_yes 3 9 ?_ rfl rfl (by kernel_rfl) (by kernel_rfl) (by kernel_rfl) (fun _ _ _ h => h) (by kernel_rfl) ?_ (by assumption) ?_; rotate_left; (focus (intro w hSw; (try dsimp only at hSw); go_simp; all_goals first | with_reducible rfl)); simp only [Act.put, List.setIfInBounds_toArray, List.set_cons_zero, List.set_cons_succ]
  refine wpAnyH_ready (rs := [4]) (by kernel_rfl) (by simp) ?_
  refine AllReadyH.cons rfl (fun K hK => ?_) AllReadyH.nil
  go_simp
  go_at_call 42; refine (kUpTo_any _ _).mono ?_; rintro e wu ⟨rfl, rfl⟩
  have C1 := HO0.out.numUp (W := (w.drew).alloc (.cells #[.int .i64 65535] 3)) (((Only.refl Empty _).drew).alloc _) w.heap.size 65535 rfl (Blk.new w.drew 3 #[.int .i64 65535]) (Nat.le_refl _) (by omega) 0 rfl (by omega)
  rw [← HP.out] at C1
  have C1 := Lib.hid C1
  go_wp2_with fail
  refine hK.out _ _ (trivial) (fun _ => ?_)
  clear hK K
  try simp only [Act.put, List.setIfInBounds_toArray, List.set_cons_zero, List.set_cons_succ]
  refine wpAnyH_ready (rs := [5]) (by kernel_rfl) (by simp) ?_
  refine AllReadyH.cons rfl (fun K hK => ?_) AllReadyH.nil
  go_simp
  refine C1.out.mono ?_
  rintro e w1 ⟨rfl, S1, s1, x1, hO1, hS1⟩
  have HO1 := Lib.hid hO1
  have HS1 := Lib.hid hS1
  clear hO1 hS1 C1
  go_wp2_with fail
  refine hK.out _ _ (trivial) (fun _ => ?_)
  clear hK K
  try simp only [Act.put, List.setIfInBounds_toArray, List.set_cons_zero, List.set_cons_succ]
  refine wpAnyH_done (by kernel_rfl) ?_ _
  go_wp2_with fail
  refine wp_region_held_drew (S := fun _ => True) (by kernel_rfl) trivial (fun hHeld1 => ?_)
  refine take_yes 0 12 ?_ rfl rfl (by kernel_rfl) (by kernel_rfl) (by kernel_rfl) (fun _ _ _ h => h) (by kernel_rfl) ?_ (by assumption) ?_; rotate_left; (focus (intro w hSw; (try dsimp only at hSw); go_simp; all_goals first | with_reducible rfl)); simp only [Act.put, List.setIfInBounds_toArray, List.set_cons_zero, List.set_cons_succ]
  refine take_yes 1 13 ?_ rfl rfl (by kernel_rfl) (by kernel_rfl) (by kernel_rfl) (fun _ _ _ h => h) (by kernel_rfl) ?_ (by assumption) ?_; rotate_left; (focus (intro w hSw; (try dsimp only at hSw); go_simp; all_goals first | with_reducible rfl)); simp only [Act.put, List.setIfInBounds_toArray, List.set_cons_zero, List.set_cons_succ]
  refine take_yes 2 14 ?_ rfl rfl (by kernel_rfl) (by kernel_rfl) (by kernel_rfl) (fun _ _ _ h => h) (by kernel_rfl) ?_ (by assumption) ?_; rotate_left; (focus (intro w hSw; (try dsimp only at hSw); go_simp; all_goals first | with_reducible rfl)); simp only [Act.put, List.setIfInBounds_toArray, List.set_cons_zero, List.set_cons_succ]
  refine take_yes 3 15 ?_ rfl rfl (by kernel_rfl) (by kernel_rfl) (by kernel_rfl) (fun _ _ _ h => h) (by kernel_rfl) ?_ (by assumption) ?_; rotate_left; (focus (intro w hSw; (try dsimp only at hSw); go_simp; all_goals first | with_reducible rfl)); simp only [Act.put, List.setIfInBounds_toArray, List.set_cons_zero, List.set_cons_succ]
  refine wpAnyH_ready (rs := [4]) (by kernel_rfl) (by simp) ?_
  refine AllReadyH.cons rfl (fun K hK => ?_) AllReadyH.nil
  go_simp
  go_at_call 42; refine (kUpTo_any _ _).mono ?_; rintro e wu ⟨rfl, rfl⟩
  have C2 := HO1.out.numUp (W := (w1.drew).alloc (.cells #[.int .i64 65535] 3)) (((Only.refl Empty _).drew).alloc _) w1.heap.size 65535 rfl (Blk.new w1.drew 3 #[.int .i64 65535]) (Nat.le_refl _) (by omega) 1 rfl (by omega)
  rw [← HP.out] at C2
  have C2 := Lib.hid C2
  go_wp2_with fail
  refine hK.out _ _ (trivial) (fun _ => ?_)
  clear hK K
  try simp only [Act.put, List.setIfInBounds_toArray, List.set_cons_zero, List.set_cons_succ]
  refine wpAnyH_ready (rs := [5]) (by kernel_rfl) (by simp) ?_
  refine AllReadyH.cons rfl (fun K hK => ?_) AllReadyH.nil
  go_simp
  refine C2.out.mono ?_
  rintro e w2 ⟨rfl, S2, s2, x2, hO2, hS2⟩
  have HO2 := Lib.hid hO2
  have HS2 := Lib.hid hS2
  clear hO2 hS2 C2
  go_wp2_with fail
  refine hK.out _ _ (trivial) (fun _ => ?_)
  clear hK K
  try simp only [Act.put, List.setIfInBounds_toArray, List.set_cons_zero, List.set_cons_succ]
  refine wpAnyH_done (by kernel_rfl) ?_ _
  go_wp2_with fail
  refine wp_region_held_drew (S := fun _ => True) (by kernel_rfl) trivial (fun hHeld2 => ?_)
  refine take_yes 0 18 ?_ rfl rfl (by kernel_rfl) (by kernel_rfl) (by kernel_rfl) (fun _ _ _ h => h) (by kernel_rfl) ?_ (by assumption) ?_; rotate_left; (focus (intro w hSw; (try dsimp only at hSw); go_simp; all_goals first | with_reducible rfl)); simp only [Act.put, List.setIfInBounds_toArray, List.set_cons_zero, List.set_cons_succ]
  refine take_yes 1 19 ?_ rfl rfl (by kernel_rfl) (by kernel_rfl) (by kernel_rfl) (fun _ _ _ h => h) (by kernel_rfl) ?_ (by assumption) ?_; rotate_left; (focus (intro w hSw; (try dsimp only at hSw); go_simp; all_goals first | with_reducible rfl)); simp only [Act.put, List.setIfInBounds_toArray, List.set_cons_zero, List.set_cons_succ]
  refine take_yes 2 20 ?_ rfl rfl (by kernel_rfl) (by kernel_rfl) (by kernel_rfl) (fun _ _ _ h => h) (by kernel_rfl) ?_ (by assumption) ?_; rotate_left; (focus (intro w hSw; (try dsimp only at hSw); go_simp; all_goals first | with_reducible rfl)); simp only [Act.put, List.setIfInBounds_toArray, List.set_cons_zero, List.set_cons_succ]
  refine take_yes 3 21 ?_ rfl rfl (by kernel_rfl) (by kernel_rfl) (by kernel_rfl) (fun _ _ _ h => h) (by kernel_rfl) ?_ (by assumption) ?_; rotate_left; (focus (intro w hSw; (try dsimp only at hSw); go_simp; all_goals first | with_reducible rfl)); simp only [Act.put, List.setIfInBounds_toArray, List.set_cons_zero, List.set_cons_succ]
  refine wpAnyH_ready (rs := [4]) (by kernel_rfl) (by simp) ?_
  refine AllReadyH.cons rfl (fun K hK => ?_) AllReadyH.nil
  go_simp
  go_at_call 42; refine (kUpTo_any _ _).mono ?_; rintro e wu ⟨rfl, rfl⟩
  have C3 := HO2.out.numUp (W := (w2.drew).alloc (.cells #[.int .i64 65535] 3)) (((Only.refl Empty _).drew).alloc _) w2.heap.size 65535 rfl (Blk.new w2.drew 3 #[.int .i64 65535]) (Nat.le_refl _) (by omega) 2 rfl (by omega)
  rw [← HP.out] at C3
  have C3 := Lib.hid C3
  go_wp2_with fail
  refine hK.out _ _ (trivial) (fun _ => ?_)
  clear hK K
  try simp only [Act.put, List.setIfInBounds_toArray, List.set_cons_zero, List.set_cons_succ]
  refine wpAnyH_ready (rs := [5]) (by kernel_rfl) (by simp) ?_
  refine AllReadyH.cons rfl (fun K hK => ?_) AllReadyH.nil
  go_simp
  refine C3.out.mono ?_
  rintro e w3 ⟨rfl, S3, s3, x3, hO3, hS3⟩
  have HO3 := Lib.hid hO3
  have HS3 := Lib.hid hS3
  clear hO3 hS3 C3
  go_wp2_with fail
  refine hK.out _ _ (trivial) (fun _ => ?_)
  clear hK K
  try simp only [Act.put, List.setIfInBounds_toArray, List.set_cons_zero, List.set_cons_succ]
  refine wpAnyH_done (by kernel_rfl) ?_ _
  have C4 := HO3.out.numClsNone 3 rfl (by omega)
  rw [← HP.out, ← HC.out] at C4
  have C4 := Lib.hid C4
  go_wp2_with fail
  refine C4.out.mono ?_
  rintro e w4 ⟨rfl, S4, s4, x4, hO4, hS4⟩
  have HO4 := Lib.hid hO4
  have HS4 := Lib.hid hS4
  clear hO4 hS4
  go_wp2
  go_end0
  refine ⟨rfl, S4, s4, _, ⟨x1, x2, x3, x4⟩, HO4.out.done, HO4.out.tgt, rfl, ?_⟩
  exact Stp.map (g := fun d : TrapD => (d.fr, d.til, d.at_, d.cls)) (fun a b h => by
      obtain ⟨h1, h2, h3, h4⟩ : a.fr = b.fr ∧ a.til = b.til ∧ a.at_ = b.at_ ∧ a.cls = b.cls := by simpa using h
      exact TrapD.ext h1 h2 h3 h4) (Stp.seq (Uniq.kind (fits_up 65535 (by omega))) HS1.out (Stp.seq (Uniq.kind (fits_up 65535 (by omega))) HS2.out (Stp.seq (Uniq.kind (fits_up 65535 (by omega))) HS3.out HS4.out)))

end Go.Proofs.Ytendpbklcgiafaa

/- The walk over klass's slot, of whichever pass. -/
namespace Go.Proofs.Ytendpbklcgiafaa
set_option maxRecDepth 100000
open Go.RowKit

theorem Stp.slot {rd : Bool} {C : List Cst} (hlen : C.length ≤ 1024) {s s1 s2 : Option (List UInt8)} {t a t' a' : Int} (h : Stp rd (kindE isMapTagC 1) s t s1 t')
    (k : Stp rd (if t' = 7 then kindE (isClassC C) 2 else nilE (fun a : Int => decide (a = 0))) s1 a s2 a') : Stp rd (slotE C) s ⟨t, a⟩ s2 ⟨t', a'⟩ :=
  Stp.map (g := fun d : SlotD => (d.tag, d.a)) (fun a b h => by
      obtain ⟨h1, h2⟩ : a.tag = b.tag ∧ a.a = b.a := by simpa using h
      exact SlotD.ext h1 h2) (Stp.seq (f := fun t => if t = 7 then kindE (isClassC C) 2 else nilE (fun a : Int => decide (a = 0))) (Uniq.kind fits_tag) h k)

theorem kind_ne {p : Int → Bool} {k : Nat} (hk : 1 ≤ k) (v : Int) (x : List UInt8) (h : kindE p k v = some x) : x ≠ [] := by
  have h1 := kind_len h
  intro e
  rw [e] at h1
  simp at h1
  omega
/-- Another step of the pass's own blocks. -/
theorem Ov.asked {c : Cx} {w0 w w' : World} {g b off k : Nat} {S0 S : Nat → Prop} {N : Nat} {s s' : Option (List UInt8)} {cs : List Value} (h : Ov c w0 g S0 b off k w S N s cs) (hP : PassAt c w' g S N s') (hO : Only S w w') : Ov c w0 g S0 b off k w' S N s' cs :=
  h.went hP (fun _ h => .inl h) hO

set_option maxHeartbeats 4000000 in
theorem kSlot_item (c : Cx) : Item c 63 slotT (slotE c.C) 3 (fun _ v => v.a = 0) := by
  intro w g S N s b off cs v hP hN hb hT hR hblank
  have hcs : cs = v.cells := hR
  subst hcs
  have hlen := hP.len
  obtain ⟨t, a⟩ := v
  have hO : Ov c w g S b off 2 w S N s [.int .i64 t, .int .i64 a] := Ov.start hP hT rfl hb
  have hOd : Ov c w g S b off 2 w.drew S N s [.int .i64 t, .int .i64 a] := hO.only ((Only.refl Empty w).drew)
  have C1 := mdNumber_any hOd.done.pass t 1 hOd.out (hOd.cellAt 0 rfl).1 (by omega) (by omega) (by omega)
  have HO0 := Lib.hid hOd
  have HDry : Hid (∀ s1 x1, NumS c.m.isRd 1 s t s1 x1 → c.dry → s1 = none) := Lib.hid (fun s1 x1 hn => hP.dry_num (by omega) hn)
  have HDr3 : Hid (∀ s1 x1, Stp c.m.isRd (kindE isMapTagC 1) s t s1 x1 → c.dry → s1 = none) := Lib.hid (fun s1 x1 hn => hP.dry_stp (kind_ne (by omega)) hn)
  have Hbl : Hid (c.m.isRd = true → a = 0) := Lib.hid hblank
  have rN := fun W => reach_number c.m g W
  have nN := fun W => nil_number c.m g W
  have eN := fun args W => enter_number c.m W args
  have rA := fun W => reach_ask c.m g W
  have nA := fun W => nil_ask c.m g W
  have eA : ∀ (args : Array Value) (W : World), (callFunc 18 args).run Try.prog W = .ok (.enter 18 args) W := fun args W => by kernel_rfl
  clear hO hOd hP hT hb hR hblank
  obtain ⟨cv, hcv⟩ : ∃ cv, cv = c.cv := ⟨_, rfl⟩
  obtain ⟨T, hTy⟩ : ∃ T, T = c.m.T := ⟨_, rfl⟩
  obtain ⟨fN, hfN⟩ : ∃ fN, fN = c.m.fN := ⟨_, rfl⟩
  have hp : c.m.v g = .iface T (.pointer (some ⟨g, 0, none⟩)) := by rw [hTy]; rfl
  rw [hp, ← hcv]
  rw [← hTy] at rN rA nA nN
  rw [← hfN] at rN eN C1
  have HP := Lib.hid hp
  have HC := Lib.hid hcv
  have C1 := Lib.hid C1
  clear hTy hfN hp hcv
  go_enter Try.func63, Try.ntmps63
  go_wp2_with fail
  refine wp_region_held_drew (S := fun _ => True) (by kernel_rfl) trivial (fun hHeld0 => ?_)
  refine take_yes 0 6 ?_ rfl rfl (by kernel_rfl) (by kernel_rfl) (by kernel_rfl) (fun _ _ _ h => h) (by kernel_rfl) ?_ (by assumption) ?_; rotate_left; (focus (intro w hSw; (try dsimp only at hSw); go_simp; all_goals first | with_reducible rfl)); simp only [Act.put, List.setIfInBounds_toArray, List.set_cons_zero, List.set_cons_succ]
  refine take_yes 1 7 ?_ rfl rfl (by kernel_rfl) (by kernel_rfl) (by kernel_rfl) (fun _ _ _ h => h) (by kernel_rfl) ?_ (by assumption) ?_; rotate_left; (focus (intro w hSw; (try dsimp only at hSw); go_simp; all_goals first | with_reducible rfl)); simp only [Act.put, List.setIfInBounds_toArray, List.set_cons_zero, List.set_cons_succ]
  refine take_yes 2 8 ?_ rfl rfl (by kernel_rfl) (by kernel_rfl) (by kernel_rfl) (fun _ _ _ h => h) (by kernel_rfl) ?_ (by assumption) ?_; rotate_left; (focus (intro w hSw; (try dsimp only at hSw); go_simp; all_goals first | with_reducible rfl)); simp only [Act.put, List.setIfInBounds_toArray, List.set_cons_zero, List.set_cons_succ]
  refine take_yes 3 9 ?_ rfl rfl (by kernel_rfl) (by kernel_rfl) (by kernel_rfl) (fun _ _ _ h => h) (by kernel_rfl) ?_ (by assumption) ?_; rotate_left; (focus (intro w hSw; (try dsimp only at hSw); go_simp; all_goals first | with_reducible rfl)); simp only [Act.put, List.setIfInBounds_toArray, List.set_cons_zero, List.set_cons_succ]
  refine take_yes 4 10 ?_ rfl rfl (by kernel_rfl) (by kernel_rfl) (by kernel_rfl) (fun _ _ _ h => h) (by kernel_rfl) ?_ (by assumption) ?_; rotate_left; (focus (intro w hSw; (try dsimp only at hSw); go_simp; all_goals first | with_reducible rfl)); simp only [Act.put, List.setIfInBounds_toArray, List.set_cons_zero, List.set_cons_succ]
  refine take_yes 5 11 ?_ rfl rfl (by kernel_rfl) (by kernel_rfl) (by kernel_rfl) (fun _ _ _ h => h) (by kernel_rfl) ?_ (by assumption) ?_; rotate_left; (focus (intro w hSw; (try dsimp only at hSw); go_simp; all_goals first | with_reducible rfl)); simp only [Act.put, List.setIfInBounds_toArray, List.set_cons_zero, List.set_cons_succ]
  refine take_yes 6 12 ?_ rfl rfl (by kernel_rfl) (by kernel_rfl) (by kernel_rfl) (fun _ _ _ h => h) (by kernel_rfl) ?_ (by assumption) ?_; rotate_left; (focus (intro w hSw; (try dsimp only at hSw); go_simp; all_goals first | with_reducible rfl)); simp only [Act.put, List.setIfInBounds_toArray, List.set_cons_zero, List.set_cons_succ]
  refine wpAnyH_ready (rs := [7]) (by kernel_rfl) (by simp) ?_
  refine AllReadyH.cons rfl (fun K hK => ?_) AllReadyH.nil
  go_simp
  refine C1.out.mono ?_
  rintro e1 w1 ⟨rfl, S1, s1, t1, hD1, hT1, hN1⟩
  have hO1 := (HO0.out.cellAt 0 rfl).2 hD1 hT1
  have HO1 : Hid (Ov c w g S b off 2 w1 S1 (N + 1) s1 [.int .i64 t1, .int .i64 a]) := Lib.hid hO1
  have HN1 := Lib.hid hN1
  have c1 : w1.cell? ⟨b, off, none⟩ = some (.int .i64 t1) := by have := hO1.tgt.cell 0 _ rfl; rwa [Nat.add_zero] at this
  clear hD1 hT1 hN1 hO1 C1
  go_wp2_with fail
  refine hK.out _ _ (trivial) (fun _ => ?_)
  clear hK K
  try simp only [Act.put, List.setIfInBounds_toArray, List.set_cons_zero, List.set_cons_succ]
  refine wpAnyH_done (by kernel_rfl) ?_ _
  go_wp2_with fail
  refine wp_region_held_drew (S := fun W => W.cell? ⟨b, off, none⟩ = some (.int .i64 t1)) (by kernel_rfl) c1 (fun hHeld1 => ?_)
  refine take_yes 0 14 ?_ rfl rfl (by kernel_rfl) (by kernel_rfl) (by kernel_rfl) (fun _ _ _ h => h) (by kernel_rfl) ?_ (by assumption) ?_; rotate_left; (focus (intro w hSw; (try dsimp only at hSw); go_simp; all_goals first | with_reducible rfl)); simp only [Act.put, List.setIfInBounds_toArray, List.set_cons_zero, List.set_cons_succ]
  refine take_yes 1 15 ?_ rfl rfl (by kernel_rfl) (by kernel_rfl) (by kernel_rfl) (fun _ _ _ h => h) (by kernel_rfl) ?_ (by assumption) ?_; rotate_left; (focus (intro w hSw; (try dsimp only at hSw); go_simp; all_goals first | with_reducible rfl)); simp only [Act.put, List.setIfInBounds_toArray, List.set_cons_zero, List.set_cons_succ]
  refine take_yes 2 16 ?_ rfl rfl (by kernel_rfl) (by kernel_rfl) (by kernel_rfl) (fun _ _ _ h => h) (by kernel_rfl) ?_ (by assumption) ?_; rotate_left; (focus (intro w hSw; (try dsimp only at hSw); go_simp; all_goals first | with_reducible rfl)); simp only [Act.put, List.setIfInBounds_toArray, List.set_cons_zero, List.set_cons_succ]
  refine take_yes 3 17 ?_ rfl rfl (by kernel_rfl) (by kernel_rfl) (by kernel_rfl) (fun _ _ _ h => h) (by kernel_rfl) ?_ (by assumption) ?_; rotate_left; (focus (intro w hSw; (try dsimp only at hSw); go_simp; all_goals first | with_reducible rfl)); simp only [Act.put, List.setIfInBounds_toArray, List.set_cons_zero, List.set_cons_succ]
  refine take_yes 4 18 (.int .i64 t1) rfl rfl (by kernel_rfl) (by kernel_rfl) (by kernel_rfl) (fun _ _ _ h => h) (by kernel_rfl) ?_ (by assumption) ?_; (focus (intro w hSw; (try dsimp only at hSw); go_simp; all_goals first | with_reducible rfl)); simp only [Act.put, List.setIfInBounds_toArray, List.set_cons_zero, List.set_cons_succ]
  refine take_yes 6 20 ?_ rfl rfl (by kernel_rfl) (by kernel_rfl) (by kernel_rfl) (fun _ _ _ h => h) (by kernel_rfl) ?_ (by assumption) ?_; rotate_left; (focus (intro w hSw; (try dsimp only at hSw); go_simp; all_goals first | with_reducible rfl)); simp only [Act.put, List.setIfInBounds_toArray, List.set_cons_zero, List.set_cons_succ]
  refine take_yes 7 21 ?_ rfl rfl (by kernel_rfl) (by kernel_rfl) (by kernel_rfl) (fun _ _ _ h => h) (by kernel_rfl) ?_ (by assumption) ?_; rotate_left; (focus (intro w hSw; (try dsimp only at hSw); go_simp; all_goals first | with_reducible rfl)); simp only [Act.put, List.setIfInBounds_toArray, List.set_cons_zero, List.set_cons_succ]
  refine take_yes 8 22 ?_ rfl rfl (by kernel_rfl) (by kernel_rfl) (by kernel_rfl) (fun _ _ _ h => h) (by kernel_rfl) ?_ (by assumption) ?_; rotate_left; (focus (intro w hSw; (try dsimp only at hSw); go_simp; all_goals first | with_reducible rfl)); simp only [Act.put, List.setIfInBounds_toArray, List.set_cons_zero, List.set_cons_succ]
  refine wpAnyH_ready (rs := [5]) (by kernel_rfl) (by simp) ?_
  refine AllReadyH.cons rfl (fun K hK => ?_) AllReadyH.nil
  go_simp
  refine (kIsMapTag_any t1 _).mono ?_
  rintro e2 w2 ⟨rfl, rfl⟩
  have HO2 := Lib.hid (HO1.out.only ((Only.refl Empty w1).drew))
  have CA := Lib.hid (ask_any HO2.out.done.pass (isMapTagC t1) (fun hd => .inr (HDry.out _ _ HN1.out hd)))
  go_wp2_with fail
  refine hK.out _ _ (c1) (fun _ => ?_)
  clear hK K
  try simp only [Act.put, List.setIfInBounds_toArray, List.set_cons_zero, List.set_cons_succ]
  refine wpAnyH_ready (rs := [9]) (by kernel_rfl) (by simp) ?_
  refine AllReadyH.cons rfl (fun K hK => ?_) AllReadyH.nil
  go_simp
  refine CA.out.mono ?_
  rintro e3 w3 ⟨rfl, hP3, hO3⟩
  have HO3 := Lib.hid (HO2.out.asked hP3 hO3)
  have HS3 : Hid (Stp c.m.isRd (kindE isMapTagC 1) s t (if isMapTagC t1 = true then s1 else none) t1) := Lib.hid (HN1.out.ask fits_tag)
  have d1 : w3.cell? ⟨b, off, none⟩ = some (.int .i64 t1) := by have := HO3.out.tgt.cell 0 _ rfl; rwa [Nat.add_zero] at this
  have d2 : w3.cell? ⟨b, off + 1, none⟩ = some (.int .i64 a) := HO3.out.tgt.cell 1 _ rfl
  obtain ⟨s3, hs3⟩ : ∃ s3, (if isMapTagC t1 = true then s1 else none) = s3 := ⟨_, rfl⟩
  rw [hs3] at HO3 HS3
  clear hP3 hO3 c1 CA hs3
  go_wp2_with fail
  refine hK.out _ _ (d1) (fun _ => ?_)
  clear hK K
  try simp only [Act.put, List.setIfInBounds_toArray, List.set_cons_zero, List.set_cons_succ]
  refine wpAnyH_done (by kernel_rfl) ?_ _
  by_cases h7 : t1 = 7
  · subst h7
    have C4 := HO3.out.numClass 1 rfl (by omega)
    rw [HP.out, ← HC.out] at C4
    have C4 := Lib.hid C4
    go_wp2_with fail
    refine C4.out.mono ?_
    rintro e4 w4 ⟨rfl, S4, s4, a4, hO4, hS4⟩
    have HO4 : Hid (Ov c w g S b off 2 w4 S4 (N + 1 + 2) s4 [.int .i64 7, .int .i64 a4]) := Lib.hid hO4
    have HS4 := Lib.hid hS4
    have f1 : w4.cell? ⟨b, off, none⟩ = some (.int .i64 7) := by have := HO4.out.tgt.cell 0 _ rfl; rwa [Nat.add_zero] at this
    clear hO4 hS4 d1 d2 C4
    go_wp2_with fail
    refine wp_region_held_drew (S := fun W => W.cell? ⟨b, off, none⟩ = some (.int .i64 7)) (by kernel_rfl) f1 (fun hHeld4 => ?_)
    refine take_yes 0 36 ?_ rfl rfl (by kernel_rfl) (by kernel_rfl) (by kernel_rfl) (fun _ _ _ h => h) (by kernel_rfl) ?_ (by assumption) ?_; rotate_left; (focus (intro w hSw; (try dsimp only at hSw); go_simp; all_goals first | with_reducible rfl)); simp only [Act.put, List.setIfInBounds_toArray, List.set_cons_zero, List.set_cons_succ]
    refine take_yes 1 37 ?_ rfl rfl (by kernel_rfl) (by kernel_rfl) (by kernel_rfl) (fun _ _ _ h => h) (by kernel_rfl) ?_ (by assumption) ?_; rotate_left; (focus (intro w hSw; (try dsimp only at hSw); go_simp; all_goals first | with_reducible rfl)); simp only [Act.put, List.setIfInBounds_toArray, List.set_cons_zero, List.set_cons_succ]
    refine take_yes 2 38 ?_ rfl rfl (by kernel_rfl) (by kernel_rfl) (by kernel_rfl) (fun _ _ _ h => h) (by kernel_rfl) ?_ (by assumption) ?_; rotate_left; (focus (intro w hSw; (try dsimp only at hSw); go_simp; all_goals first | with_reducible rfl)); simp only [Act.put, List.setIfInBounds_toArray, List.set_cons_zero, List.set_cons_succ]
    refine take_yes 3 39 ?_ rfl rfl (by kernel_rfl) (by kernel_rfl) (by kernel_rfl) (fun _ _ _ h => h) (by kernel_rfl) ?_ (by assumption) ?_; rotate_left; (focus (intro w hSw; (try dsimp only at hSw); go_simp; all_goals first | with_reducible rfl)); simp only [Act.put, List.setIfInBounds_toArray, List.set_cons_zero, List.set_cons_succ]
    refine take_yes 4 40 (.int .i64 7) rfl rfl (by kernel_rfl) (by kernel_rfl) (by kernel_rfl) (fun _ _ _ h => h) (by kernel_rfl) ?_ (by assumption) ?_; (focus (intro w hSw; (try dsimp only at hSw); go_simp; all_goals first | with_reducible rfl)); simp only [Act.put, List.setIfInBounds_toArray, List.set_cons_zero, List.set_cons_succ]
    refine take_yes 5 41 (.bool true) rfl rfl (by kernel_rfl) (by kernel_rfl) (by kernel_rfl) (fun _ _ _ h => h) (by kernel_rfl) ?_ (by assumption) ?_; (focus (intro w hSw; (try dsimp only at hSw); go_simp; all_goals first | with_reducible rfl)); simp only [Act.put, List.setIfInBounds_toArray, List.set_cons_zero, List.set_cons_succ]
    refine take_yes 6 42 (.bool true) rfl rfl (by kernel_rfl) (by kernel_rfl) (by kernel_rfl) (fun _ _ _ h => h) (by kernel_rfl) ?_ (by assumption) ?_; (focus (intro w hSw; (try dsimp only at hSw); go_simp; all_goals first | with_reducible rfl)); simp only [Act.put, List.setIfInBounds_toArray, List.set_cons_zero, List.set_cons_succ]
    refine take_no 7 43 rfl rfl (by kernel_rfl) (by kernel_rfl) (by kernel_rfl) (fun _ _ _ h => h) (by kernel_rfl) (by assumption) ?_; simp only [Act.put, List.setIfInBounds_toArray, List.set_cons_zero, List.set_cons_succ]
    refine take_no 8 44 rfl rfl (by kernel_rfl) (by kernel_rfl) (by kernel_rfl) (fun _ _ _ h => h) (by kernel_rfl) (by assumption) ?_; simp only [Act.put, List.setIfInBounds_toArray, List.set_cons_zero, List.set_cons_succ]
    refine take_no 9 45 rfl rfl (by kernel_rfl) (by kernel_rfl) (by kernel_rfl) (fun _ _ _ h => h) (by kernel_rfl) (by assumption) ?_; simp only [Act.put, List.setIfInBounds_toArray, List.set_cons_zero, List.set_cons_succ]
    refine take_no 10 46 rfl rfl (by kernel_rfl) (by kernel_rfl) (by kernel_rfl) (fun _ _ _ h => h) (by kernel_rfl) (by assumption) ?_; simp only [Act.put, List.setIfInBounds_toArray, List.set_cons_zero, List.set_cons_succ]
    refine take_no 11 47 rfl rfl (by kernel_rfl) (by kernel_rfl) (by kernel_rfl) (fun _ _ _ h => h) (by kernel_rfl) (by assumption) ?_; simp only [Act.put, List.setIfInBounds_toArray, List.set_cons_zero, List.set_cons_succ]
    refine take_yes 12 48 (.bool true) rfl rfl (by kernel_rfl) (by kernel_rfl) (by kernel_rfl) (fun _ _ _ h => h) (by kernel_rfl) ?_ (by assumption) ?_; (focus (intro w hSw; (try dsimp only at hSw); go_simp; all_goals first | with_reducible rfl)); simp only [Act.put, List.setIfInBounds_toArray, List.set_cons_zero, List.set_cons_succ]
    refine take_yes 13 49 ?_ rfl rfl (by kernel_rfl) (by kernel_rfl) (by kernel_rfl) (fun _ _ _ h => h) (by kernel_rfl) ?_ (by assumption) ?_; rotate_left; (focus (intro w hSw; (try dsimp only at hSw); go_simp; all_goals first | with_reducible rfl)); simp only [Act.put, List.setIfInBounds_toArray, List.set_cons_zero, List.set_cons_succ]
    refine take_yes 14 50 ?_ rfl rfl (by kernel_rfl) (by kernel_rfl) (by kernel_rfl) (fun _ _ _ h => h) (by kernel_rfl) ?_ (by assumption) ?_; rotate_left; (focus (intro w hSw; (try dsimp only at hSw); go_simp; all_goals first | with_reducible rfl)); simp only [Act.put, List.setIfInBounds_toArray, List.set_cons_zero, List.set_cons_succ]
    refine take_yes 15 51 ?_ rfl rfl (by kernel_rfl) (by kernel_rfl) (by kernel_rfl) (fun _ _ _ h => h) (by kernel_rfl) ?_ (by assumption) ?_; rotate_left; (focus (intro w hSw; (try dsimp only at hSw); go_simp; all_goals first | with_reducible rfl)); simp only [Act.put, List.setIfInBounds_toArray, List.set_cons_zero, List.set_cons_succ]
    refine wpAnyH_ready (rs := [16]) (by kernel_rfl) (by simp) ?_
    refine AllReadyH.cons rfl (fun K hK => ?_) AllReadyH.nil
    go_simp
    have HO5 := Lib.hid (HO4.out.only ((Only.refl Empty w4).drew))
    refine (ask_any HO5.out.done.pass true (fun _ => .inl rfl)).mono ?_
    rintro e6 w6 ⟨rfl, hP6, hO6⟩
    have HO6 := Lib.hid (HO5.out.asked hP6 hO6)
    have g1 : w6.cell? ⟨b, off, none⟩ = some (.int .i64 7) := by have := HO6.out.tgt.cell 0 _ rfl; rwa [Nat.add_zero] at this
    clear hP6 hO6 f1
    go_wp2_with fail
    refine hK.out _ _ (g1) (fun _ => ?_)
    clear hK K
    try simp only [Act.put, List.setIfInBounds_toArray, List.set_cons_zero, List.set_cons_succ]
    refine wpAnyH_done (by kernel_rfl) ?_ _
    go_wp2
    go_end0
    have h := HO6.out
    rw [if_pos trivial] at h
    exact ⟨rfl, S4, s4, _, ⟨7, a4⟩, h.done, h.tgt, rfl, Stp.slot hlen HS3.out (by rw [if_pos rfl]; exact HS4.out)⟩
  · have hq7 : (t1 == 7) = false := by simpa using h7
    have H7 := Lib.hid h7
    clear h7
    have HO3m : Hid (Ov c w g S b off 2 w3 S1 (N + 3) s3 [.int .i64 t1, .int .i64 a]) := Lib.hid ⟨⟨HO3.out.done.pass.more (by omega), HO3.out.done.sub, HO3.out.done.only, HO3.out.done.rest⟩, HO3.out.tgt, HO3.out.len, HO3.out.out0, HO3.out.lt0⟩
    by_cases ha : a = 0
    · subst ha
      go_wp2_with fail
      refine wp_region_held_drew (S := fun W => W.cell? ⟨b, off, none⟩ = some (.int .i64 t1) ∧ W.cell? ⟨b, off + 1, none⟩ = some (.int .i64 0)) (by kernel_rfl) ⟨d1, d2⟩ (fun hHeld4 => ?_)
      refine take_yes 0 36 ?_ rfl rfl (by kernel_rfl) (by kernel_rfl) (by kernel_rfl) (fun _ _ _ h => h) (by kernel_rfl) ?_ (by assumption) ?_; rotate_left; (focus (intro w hSw; (try dsimp only at hSw); go_simp; all_goals first | with_reducible rfl)); simp only [Act.put, List.setIfInBounds_toArray, List.set_cons_zero, List.set_cons_succ]
      refine take_yes 1 37 ?_ rfl rfl (by kernel_rfl) (by kernel_rfl) (by kernel_rfl) (fun _ _ _ h => h) (by kernel_rfl) ?_ (by assumption) ?_; rotate_left; (focus (intro w hSw; (try dsimp only at hSw); go_simp; all_goals first | with_reducible rfl)); simp only [Act.put, List.setIfInBounds_toArray, List.set_cons_zero, List.set_cons_succ]
      refine take_yes 2 38 ?_ rfl rfl (by kernel_rfl) (by kernel_rfl) (by kernel_rfl) (fun _ _ _ h => h) (by kernel_rfl) ?_ (by assumption) ?_; rotate_left; (focus (intro w hSw; (try dsimp only at hSw); go_simp; all_goals first | with_reducible rfl)); simp only [Act.put, List.setIfInBounds_toArray, List.set_cons_zero, List.set_cons_succ]
      refine take_yes 3 39 ?_ rfl rfl (by kernel_rfl) (by kernel_rfl) (by kernel_rfl) (fun _ _ _ h => h) (by kernel_rfl) ?_ (by assumption) ?_; rotate_left; (focus (intro w hSw; (try dsimp only at hSw); go_simp; all_goals first | with_reducible rfl)); simp only [Act.put, List.setIfInBounds_toArray, List.set_cons_zero, List.set_cons_succ]
      refine take_yes 4 40 (.int .i64 t1) rfl rfl (by kernel_rfl) (by kernel_rfl) (by kernel_rfl) (fun _ _ _ h => h) (by kernel_rfl) ?_ (by assumption) ?_; (focus (intro w hSw; (try dsimp only at hSw); go_simp; all_goals first | with_reducible rfl)); simp only [Act.put, List.setIfInBounds_toArray, List.set_cons_zero, List.set_cons_succ]
      refine take_yes 5 41 (.bool false) rfl rfl (by kernel_rfl) (by kernel_rfl) (by kernel_rfl) (fun _ _ _ h => h) (by kernel_rfl) ?_ (by assumption) ?_; (focus (intro w hSw; (try dsimp only at hSw); go_simp; all_goals first | with_reducible rfl)); simp only [Act.put, List.setIfInBounds_toArray, List.set_cons_zero, List.set_cons_succ]
      refine take_yes 6 42 (.bool false) rfl rfl (by kernel_rfl) (by kernel_rfl) (by kernel_rfl) (fun _ _ _ h => h) (by kernel_rfl) ?_ (by assumption) ?_; (focus (intro w hSw; (try dsimp only at hSw); go_simp; all_goals first | with_reducible rfl)); simp only [Act.put, List.setIfInBounds_toArray, List.set_cons_zero, List.set_cons_succ]
      refine take_yes 7 43 ?_ rfl rfl (by kernel_rfl) (by kernel_rfl) (by kernel_rfl) (fun _ _ _ h => h) (by kernel_rfl) ?_ (by assumption) ?_; rotate_left; (focus (intro w hSw; (try dsimp only at hSw); go_simp; all_goals first | with_reducible rfl)); simp only [Act.put, List.setIfInBounds_toArray, List.set_cons_zero, List.set_cons_succ]
      refine take_yes 8 44 ?_ rfl rfl (by kernel_rfl) (by kernel_rfl) (by kernel_rfl) (fun _ _ _ h => h) (by kernel_rfl) ?_ (by assumption) ?_; rotate_left; (focus (intro w hSw; (try dsimp only at hSw); go_simp; all_goals first | with_reducible rfl)); simp only [Act.put, List.setIfInBounds_toArray, List.set_cons_zero, List.set_cons_succ]
      refine take_yes 9 45 ?_ rfl rfl (by kernel_rfl) (by kernel_rfl) (by kernel_rfl) (fun _ _ _ h => h) (by kernel_rfl) ?_ (by assumption) ?_; rotate_left; (focus (intro w hSw; (try dsimp only at hSw); go_simp; all_goals first | with_reducible rfl)); simp only [Act.put, List.setIfInBounds_toArray, List.set_cons_zero, List.set_cons_succ]
      refine take_yes 10 46 (.int .i64 0) rfl rfl (by kernel_rfl) (by kernel_rfl) (by kernel_rfl) (fun _ _ _ h => h) (by kernel_rfl) ?_ (by assumption) ?_; (focus (intro w hSw; (try dsimp only at hSw); go_simp; all_goals first | with_reducible rfl)); simp only [Act.put, List.setIfInBounds_toArray, List.set_cons_zero, List.set_cons_succ]
      refine take_yes 11 47 (.bool true) rfl rfl (by kernel_rfl) (by kernel_rfl) (by kernel_rfl) (fun _ _ _ h => h) (by kernel_rfl) ?_ (by assumption) ?_; (focus (intro w hSw; (try dsimp only at hSw); go_simp; all_goals first | with_reducible rfl)); simp only [Act.put, List.setIfInBounds_toArray, List.set_cons_zero, List.set_cons_succ]
      refine take_yes 12 48 (.bool true) rfl rfl (by kernel_rfl) (by kernel_rfl) (by kernel_rfl) (fun _ _ _ h => h) (by kernel_rfl) ?_ (by assumption) ?_; (focus (intro w hSw; (try dsimp only at hSw); go_simp; all_goals first | with_reducible rfl)); simp only [Act.put, List.setIfInBounds_toArray, List.set_cons_zero, List.set_cons_succ]
      refine take_yes 13 49 ?_ rfl rfl (by kernel_rfl) (by kernel_rfl) (by kernel_rfl) (fun _ _ _ h => h) (by kernel_rfl) ?_ (by assumption) ?_; rotate_left; (focus (intro w hSw; (try dsimp only at hSw); go_simp; all_goals first | with_reducible rfl)); simp only [Act.put, List.setIfInBounds_toArray, List.set_cons_zero, List.set_cons_succ]
      refine take_yes 14 50 ?_ rfl rfl (by kernel_rfl) (by kernel_rfl) (by kernel_rfl) (fun _ _ _ h => h) (by kernel_rfl) ?_ (by assumption) ?_; rotate_left; (focus (intro w hSw; (try dsimp only at hSw); go_simp; all_goals first | with_reducible rfl)); simp only [Act.put, List.setIfInBounds_toArray, List.set_cons_zero, List.set_cons_succ]
      refine take_yes 15 51 ?_ rfl rfl (by kernel_rfl) (by kernel_rfl) (by kernel_rfl) (fun _ _ _ h => h) (by kernel_rfl) ?_ (by assumption) ?_; rotate_left; (focus (intro w hSw; (try dsimp only at hSw); go_simp; all_goals first | with_reducible rfl)); simp only [Act.put, List.setIfInBounds_toArray, List.set_cons_zero, List.set_cons_succ]
      refine wpAnyH_ready (rs := [16]) (by kernel_rfl) (by simp) ?_
      refine AllReadyH.cons rfl (fun K hK => ?_) AllReadyH.nil
      go_simp
      have HO5 := Lib.hid (HO3m.out.only ((Only.refl Empty w3).drew))
      refine (ask_any HO5.out.done.pass true (fun _ => .inl rfl)).mono ?_
      rintro e6 w6 ⟨rfl, hP6, hO6⟩
      have HO6 := Lib.hid (HO5.out.asked hP6 hO6)
      have g1 : w6.cell? ⟨b, off, none⟩ = some (.int .i64 t1) := by have := HO6.out.tgt.cell 0 _ rfl; rwa [Nat.add_zero] at this
      have g2 : w6.cell? ⟨b, off + 1, none⟩ = some (.int .i64 0) := HO6.out.tgt.cell 1 _ rfl
      clear hP6 hO6
      go_wp2_with fail
      refine hK.out _ _ (⟨g1, g2⟩) (fun _ => ?_)
      clear hK K
      try simp only [Act.put, List.setIfInBounds_toArray, List.set_cons_zero, List.set_cons_succ]
      refine wpAnyH_done (by kernel_rfl) ?_ _
      go_wp2
      go_end0
      have h := HO6.out
      rw [if_pos trivial] at h
      exact ⟨rfl, S1, s3, _, ⟨t1, 0⟩, h.done, h.tgt, rfl, Stp.slot hlen HS3.out (by rw [if_neg H7.out]; exact Stp.nil_ (p := fun a : Int => decide (a = 0)) zero_one s3 0 (fun _ => rfl))⟩
    · have hqa : (a == 0) = false := by simpa using ha
      have Ha := Lib.hid ha
      clear ha
      go_wp2_with fail
      refine wp_region_held_drew (S := fun W => W.cell? ⟨b, off, none⟩ = some (.int .i64 t1) ∧ W.cell? ⟨b, off + 1, none⟩ = some (.int .i64 a)) (by kernel_rfl) ⟨d1, d2⟩ (fun hHeld4 => ?_)
      refine take_yes 0 36 ?_ rfl rfl (by kernel_rfl) (by kernel_rfl) (by kernel_rfl) (fun _ _ _ h => h) (by kernel_rfl) ?_ (by assumption) ?_; rotate_left; (focus (intro w hSw; (try dsimp only at hSw); go_simp; all_goals first | with_reducible rfl)); simp only [Act.put, List.setIfInBounds_toArray, List.set_cons_zero, List.set_cons_succ]
      refine take_yes 1 37 ?_ rfl rfl (by kernel_rfl) (by kernel_rfl) (by kernel_rfl) (fun _ _ _ h => h) (by kernel_rfl) ?_ (by assumption) ?_; rotate_left; (focus (intro w hSw; (try dsimp only at hSw); go_simp; all_goals first | with_reducible rfl)); simp only [Act.put, List.setIfInBounds_toArray, List.set_cons_zero, List.set_cons_succ]
      refine take_yes 2 38 ?_ rfl rfl (by kernel_rfl) (by kernel_rfl) (by kernel_rfl) (fun _ _ _ h => h) (by kernel_rfl) ?_ (by assumption) ?_; rotate_left; (focus (intro w hSw; (try dsimp only at hSw); go_simp; all_goals first | with_reducible rfl)); simp only [Act.put, List.setIfInBounds_toArray, List.set_cons_zero, List.set_cons_succ]
      refine take_yes 3 39 ?_ rfl rfl (by kernel_rfl) (by kernel_rfl) (by kernel_rfl) (fun _ _ _ h => h) (by kernel_rfl) ?_ (by assumption) ?_; rotate_left; (focus (intro w hSw; (try dsimp only at hSw); go_simp; all_goals first | with_reducible rfl)); simp only [Act.put, List.setIfInBounds_toArray, List.set_cons_zero, List.set_cons_succ]
      refine take_yes 4 40 (.int .i64 t1) rfl rfl (by kernel_rfl) (by kernel_rfl) (by kernel_rfl) (fun _ _ _ h => h) (by kernel_rfl) ?_ (by assumption) ?_; (focus (intro w hSw; (try dsimp only at hSw); go_simp; all_goals first | with_reducible rfl)); simp only [Act.put, List.setIfInBounds_toArray, List.set_cons_zero, List.set_cons_succ]
      refine take_yes 5 41 (.bool false) rfl rfl (by kernel_rfl) (by kernel_rfl) (by kernel_rfl) (fun _ _ _ h => h) (by kernel_rfl) ?_ (by assumption) ?_; (focus (intro w hSw; (try dsimp only at hSw); go_simp; all_goals first | with_reducible rfl)); simp only [Act.put, List.setIfInBounds_toArray, List.set_cons_zero, List.set_cons_succ]
      refine take_yes 6 42 (.bool false) rfl rfl (by kernel_rfl) (by kernel_rfl) (by kernel_rfl) (fun _ _ _ h => h) (by kernel_rfl) ?_ (by assumption) ?_; (focus (intro w hSw; (try dsimp only at hSw); go_simp; all_goals first | with_reducible rfl)); simp only [Act.put, List.setIfInBounds_toArray, List.set_cons_zero, List.set_cons_succ]
      refine take_yes 7 43 ?_ rfl rfl (by kernel_rfl) (by kernel_rfl) (by kernel_rfl) (fun _ _ _ h => h) (by kernel_rfl) ?_ (by assumption) ?_; rotate_left; (focus (intro w hSw; (try dsimp only at hSw); go_simp; all_goals first | with_reducible rfl)); simp only [Act.put, List.setIfInBounds_toArray, List.set_cons_zero, List.set_cons_succ]
      refine take_yes 8 44 ?_ rfl rfl (by kernel_rfl) (by kernel_rfl) (by kernel_rfl) (fun _ _ _ h => h) (by kernel_rfl) ?_ (by assumption) ?_; rotate_left; (focus (intro w hSw; (try dsimp only at hSw); go_simp; all_goals first | with_reducible rfl)); simp only [Act.put, List.setIfInBounds_toArray, List.set_cons_zero, List.set_cons_succ]
      refine take_yes 9 45 ?_ rfl rfl (by kernel_rfl) (by kernel_rfl) (by kernel_rfl) (fun _ _ _ h => h) (by kernel_rfl) ?_ (by assumption) ?_; rotate_left; (focus (intro w hSw; (try dsimp only at hSw); go_simp; all_goals first | with_reducible rfl)); simp only [Act.put, List.setIfInBounds_toArray, List.set_cons_zero, List.set_cons_succ]
      refine take_yes 10 46 (.int .i64 a) rfl rfl (by kernel_rfl) (by kernel_rfl) (by kernel_rfl) (fun _ _ _ h => h) (by kernel_rfl) ?_ (by assumption) ?_; (focus (intro w hSw; (try dsimp only at hSw); go_simp; all_goals first | with_reducible rfl)); simp only [Act.put, List.setIfInBounds_toArray, List.set_cons_zero, List.set_cons_succ]
      refine take_yes 11 47 (.bool false) rfl rfl (by kernel_rfl) (by kernel_rfl) (by kernel_rfl) (fun _ _ _ h => h) (by kernel_rfl) ?_ (by assumption) ?_; (focus (intro w hSw; (try dsimp only at hSw); go_simp; all_goals first | with_reducible rfl)); simp only [Act.put, List.setIfInBounds_toArray, List.set_cons_zero, List.set_cons_succ]
      refine take_yes 12 48 (.bool false) rfl rfl (by kernel_rfl) (by kernel_rfl) (by kernel_rfl) (fun _ _ _ h => h) (by kernel_rfl) ?_ (by assumption) ?_; (focus (intro w hSw; (try dsimp only at hSw); go_simp; all_goals first | with_reducible rfl)); simp only [Act.put, List.setIfInBounds_toArray, List.set_cons_zero, List.set_cons_succ]
      refine take_yes 13 49 ?_ rfl rfl (by kernel_rfl) (by kernel_rfl) (by kernel_rfl) (fun _ _ _ h => h) (by kernel_rfl) ?_ (by assumption) ?_; rotate_left; (focus (intro w hSw; (try dsimp only at hSw); go_simp; all_goals first | with_reducible rfl)); simp only [Act.put, List.setIfInBounds_toArray, List.set_cons_zero, List.set_cons_succ]
      refine take_yes 14 50 ?_ rfl rfl (by kernel_rfl) (by kernel_rfl) (by kernel_rfl) (fun _ _ _ h => h) (by kernel_rfl) ?_ (by assumption) ?_; rotate_left; (focus (intro w hSw; (try dsimp only at hSw); go_simp; all_goals first | with_reducible rfl)); simp only [Act.put, List.setIfInBounds_toArray, List.set_cons_zero, List.set_cons_succ]
      refine take_yes 15 51 ?_ rfl rfl (by kernel_rfl) (by kernel_rfl) (by kernel_rfl) (fun _ _ _ h => h) (by kernel_rfl) ?_ (by assumption) ?_; rotate_left; (focus (intro w hSw; (try dsimp only at hSw); go_simp; all_goals first | with_reducible rfl)); simp only [Act.put, List.setIfInBounds_toArray, List.set_cons_zero, List.set_cons_succ]
      refine wpAnyH_ready (rs := [16]) (by kernel_rfl) (by simp) ?_
      refine AllReadyH.cons rfl (fun K hK => ?_) AllReadyH.nil
      go_simp
      have HO5 := Lib.hid (HO3m.out.only ((Only.refl Empty w3).drew))
      refine (ask_any HO5.out.done.pass false (fun hd => .inr (HDr3.out _ _ HS3.out hd))).mono ?_
      rintro e6 w6 ⟨rfl, hP6, hO6⟩
      have HO6 := Lib.hid (HO5.out.asked hP6 hO6)
      have g1 : w6.cell? ⟨b, off, none⟩ = some (.int .i64 t1) := by have := HO6.out.tgt.cell 0 _ rfl; rwa [Nat.add_zero] at this
      have g2 : w6.cell? ⟨b, off + 1, none⟩ = some (.int .i64 a) := HO6.out.tgt.cell 1 _ rfl
      clear hP6 hO6
      go_wp2_with fail
      refine hK.out _ _ (⟨g1, g2⟩) (fun _ => ?_)
      clear hK K
      try simp only [Act.put, List.setIfInBounds_toArray, List.set_cons_zero, List.set_cons_succ]
      refine wpAnyH_done (by kernel_rfl) ?_ _
      go_wp2
      go_end0
      have h := HO6.out
      rw [if_neg (by decide)] at h
      refine ⟨rfl, S1, none, _, ⟨t1, a⟩, h.done, h.tgt, rfl, Stp.slot hlen HS3.out ?_⟩
      rw [if_neg H7.out]
      have hst := Stp.nil_ (rd := c.m.isRd) (p := fun a : Int => decide (a = 0)) zero_one s3 a (fun hr => decide_eq_true (Hbl.out hr))
      rw [if_neg (by simpa using Ha.out)] at hst
      exact hst

end Go.Proofs.Ytendpbklcgiafaa

/- The walks over utf.Decode and the document's Decode. -/
namespace Go.Proofs.Ytendpbklcgiafaa
set_option maxRecDepth 100000
open Go.RowKit

theorem Try.infoU16 : (Try.prog.info? 107).map (fun i => (i.zero, i.size, i.bytes)) = some (some (.int .u16 0), 1, 2) := by kernel_rfl

/-- The cells of a row of 16-bit numbers. -/
def row16 (l : List Nat) : Array Value := (l.map fun (u : Nat) => Value.int .u16 (u : Int)).toArray
theorem row16_set (l : List Nat) (k u : Nat) : (row16 l).setIfInBounds k (.int .u16 (u : Int)) = row16 (l.set k u) := by
  unfold row16
  simp [List.map_set]
theorem row16_size (l : List Nat) : (row16 l).size = l.length := by simp [row16]
theorem row16_get (l : List Nat) (i : Nat) : (row16 l)[i]? = l[i]?.map fun (u : Nat) => Value.int .u16 (u : Int) := by simp [row16]
theorem row16_flat (l : List Nat) : l.flatMap cells16 = l.map fun (u : Nat) => Value.int .u16 (u : Int) := by
  induction l with
  | nil => rfl
  | cons u l ih => simp [cells16, ih]
theorem made16 (n : Nat) : madeCells #[.int .u16 0] n = row16 (List.replicate n 0) := by
  apply Array.ext_getElem?
  intro i
  rw [row16_get, List.getElem?_replicate]
  by_cases h : i < n
  · simp [madeCells, h, Nat.mod_one]
  · simp [madeCells, h]
theorem run_make16 (n : Nat) (hm : n ≤ 1000000) (W : World) :
    (Instr.makeSlice 92 (.int .i64 (n : Int)) (.int .i64 (n : Int))).run Try.prog W = .ok (.slice (some ⟨W.heap.size, 0, none⟩) n n) (W.alloc (.cells (row16 (List.replicate n 0)) 107)) := by
  obtain ⟨i0, hi, hz0, hz1, hz2⟩ := info_parts Try.infoU16
  have hr := run_make (P := Try.prog) W 92 107 i0 (.int .u16 0) Try.underlying92 hi hz0 .i64 .i64 n n (by omega) (by omega) (by rw [hz2]; omega) (by omega)
  simp only [Int.toNat_natCast, hz1, Nat.mul_one] at hr
  rw [← made16]
  exact hr
theorem T16.of_blk {w : World} {g n : Nat} {l : List Nat} (h : Blk w g 107 (row16 l)) (hl : l.length = n) (hm : n ≤ maxLen) : T16 w (some ⟨g, 0, none⟩) n n l :=
  RowSl.of_blk (fun _ => rfl) h hl (Nat.le_refl _) hm (fun j hj => by rw [row16_flat, row16_get, List.getElem?_map]) (fun h => h)

/-- What Decode answers. -/
def Decoded (w w' : World) (r : Option (List Nat)) (e : Ending) : Prop := (match r with
  | some l => ∃ A cap, e = .returned (.tuple #[.slice A l.length cap, .int .i64 0]) ∧ T16 w' A l.length cap l
  | none => e = .returned (.tuple #[.slice none 0 0, .int .i64 8])) ∧ Below w.heap.size w w'

theorem decR_cons {ys : List UInt8} {u : Nat} {t : List Nat} (h : DecR ys (some (u :: t))) : (unitF ys).1 = u ∧ (unitF ys).2 ≠ 0 ∧ DecR (ys.drop (unitF ys).2) (some t) ∧ 0 < ys.length := by
  generalize hr : some (u :: t) = r at h
  cases h with
  | nil => cases hr
  | bad hb h => cases hr
  | @go _ r2 h h2 =>
    cases r2 with
    | none => cases hr
    | some l2 =>
      have hr : u :: t = (unitF ys).1 :: l2 := by simpa using hr
      obtain ⟨e1, e2⟩ := List.cons.inj hr
      subst e2
      refine ⟨e1.symm, h, h2, ?_⟩
      have := unitF_le ys
      omega

theorem set_zero (l : List Nat) (n k u : Nat) (hl : l.length = n) (h : l[k]? = some u) : (l.take k ++ List.replicate (n - k) 0).set k u = l.take (k + 1) ++ List.replicate (n - (k + 1)) 0 := by
  have hk : k < l.length := (List.getElem?_eq_some_iff.1 h).1
  rw [take_one l k u h, show n - k = (n - (k + 1)) + 1 by omega, List.replicate_succ, List.set_append_right _ _ (by rw [List.length_take]; omega)]
  simp [List.length_take, Nat.min_eq_left (Nat.le_of_lt hk)]


/-- What the document's Decode makes of the bytes at one place: the number, and how many bytes. -/
def refV (ys : List UInt8) : Int × Nat := match ys with
  | [] => (0, 1)
  | x :: t => if 192 ≤ x.toNat ∧ x.toNat < 224 ∧ 1 ≤ t.length then (((x.toNat : Int) - 192) * 64 + ((t.getD 0 0).toNat : Int) - 128, 2)
    else if 224 ≤ x.toNat ∧ x.toNat < 240 ∧ 2 ≤ t.length then (((x.toNat : Int) - 224) * 4096 + (((t.getD 0 0).toNat : Int) - 128) * 64 + ((t.getD 1 0).toNat : Int) - 128, 3)
    else ((x.toNat : Int), 1)
/-- Is it a unit? -/
def refOk (ys : List UInt8) : Prop := 0 ≤ (refV ys).1 ∧ (refV ys).1 ≤ 65535 ∧ encU (refV ys).1.toNat = ys.take (refV ys).2

theorem refV_len (ys : List UInt8) (h : 0 < ys.length) : 1 ≤ (refV ys).2 ∧ (refV ys).2 ≤ ys.length ∧ (refV ys).2 ≤ 3 := by
  match ys with
  | [] => simp at h
  | x :: t =>
    unfold refV
    simp only
    split
    · rename_i h1
      simp only [List.length_cons]
      omega
    · split
      · rename_i h1
        simp only [List.length_cons]
        omega
      · simp only [List.length_cons]
        omega

theorem refOk_unit (ys : List UInt8) (hl : 0 < ys.length) (h : refOk ys) : unitF ys = ((refV ys).1.toNat, (refV ys).2) := by
  obtain ⟨h0, h1, h2⟩ := h
  have hv := refV_len ys hl
  have e : ys = encU (refV ys).1.toNat ++ ys.drop (refV ys).2 := by rw [h2, List.take_append_drop]
  have hn : (refV ys).2 = sizeU (refV ys).1.toNat := by
    have := congrArg List.length h2
    rw [encU_len, List.length_take] at this
    omega
  have hu := unitF_enc (refV ys).1.toNat (by omega) (ys.drop (refV ys).2)
  rw [← e] at hu
  rw [hu, ← hn]

theorem unit_refOk (ys : List UInt8) (h : (unitF ys).2 ≠ 0) : refOk ys := by
  obtain ⟨hu, hs, he⟩ := unitF_some ys h
  obtain ⟨u, hue⟩ : ∃ u, u = (unitF ys).1 := ⟨_, rfl⟩
  rw [← hue] at hu hs he
  have key : refV ys = ((u : Int), sizeU u) := by
    rw [hs] at he
    rw [he]
    generalize ys.drop (sizeU u) = r
    unfold encU sizeU
    by_cases h1 : 1 ≤ u ∧ u ≤ 127
    · rw [if_pos h1, if_pos h1]
      show refV (_ :: r) = _
      unfold refV
      simp only [u8n u (by omega)]
      rw [if_neg (by omega), if_neg (by omega)]
    · rw [if_neg h1, if_neg h1]
      by_cases h2 : u ≤ 2047
      · rw [if_pos h2, if_pos h2]
        show refV (_ :: _ :: r) = _
        unfold refV
        simp only [u8n (192 + u / 64) (by omega), List.getD_cons_zero, u8n (128 + u % 64) (by omega), List.length_cons]
        rw [if_pos (by omega)]
        congr 1
        omega
      · rw [if_neg h2, if_neg h2]
        show refV (_ :: _ :: _ :: r) = _
        unfold refV
        simp only [u8n (224 + u / 4096) (by omega), List.getD_cons_zero, List.getD_cons_succ, u8n (128 + u / 64 % 64) (by omega), u8n (128 + u % 64) (by omega), List.length_cons]
        rw [if_neg (by omega), if_pos (by omega)]
        congr 1
        omega
  unfold refOk
  rw [key]
  refine ⟨by show (0:Int) ≤ (u : Int); omega, by show (u : Int) ≤ 65535; omega, ?_⟩
  show encU ((u : Int).toNat) = ys.take (sizeU u)
  rw [Int.toNat_natCast]
  have h3 := congrArg (List.take (sizeU u)) he
  rw [hs] at h3
  rw [h3, ← encU_len, List.take_left]

end Go.Proofs.Ytendpbklcgiafaa
