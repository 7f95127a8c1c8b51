/- The walks over the document's record, Room, Check (of one change), Most. -/
import Derived.Test.YtnhfmcijadficaaGreatDoorZbi
import Derived.Test.YtnhfmcijadficaaGreatDoorZap
import Derived.Lib.SlBytesConst
namespace Go.Proofs.YtnhfmcijadficaaGreatDoor
set_option maxRecDepth 100000
open Go.RowKit Go.Maps

end Go.Proofs.YtnhfmcijadficaaGreatDoor

/- The walk over the document's Apply. -/
namespace Go.Proofs.YtnhfmcijadficaaGreatDoor
set_option maxRecDepth 100000
open Go.RowKit Go.Maps

/-- What is still to be done of one change. -/
def restB (k b : List UInt8) (d : Bool) (Y : AB) : AB := if d then adel Y k else ains (k, b) (adel Y k)
theorem restB_nil (k b : List UInt8) (d : Bool) : restB k b d [] = if d then [] else [(k, b)] := by cases d <;> rfl
theorem restB_same {k b : List UInt8} {d : Bool} {p : Pr} {Y : AB} (hp : p.1 = k) : restB k b d (p :: Y) = restB k b d Y := by
  have h : adel (p :: Y) k = adel Y k := by
    unfold adel
    rw [List.filter_cons_of_neg (by simpa using hp)]
  unfold restB
  rw [h]
theorem restB_skip {k b : List UInt8} {d : Bool} {p : Pr} {Y : AB} (hp : p.1 ≠ k) (hb : d = true ∨ ¬ bytesBefore k p.1 = true) : restB k b d (p :: Y) = p :: restB k b d Y := by
  have h : adel (p :: Y) k = p :: adel Y k := by
    unfold adel
    rw [List.filter_cons_of_pos (by simpa using hp)]
  unfold restB
  rw [h]
  cases d with
  | true => rfl
  | false =>
    rw [if_neg (by decide), if_neg (by decide)]
    rcases hb with hb | hb
    · cases hb
    · rw [ains, if_neg hb]
theorem restB_put {k b : List UInt8} {p : Pr} {Y : AB} (hb : bytesBefore k p.1 = true) : restB k b false (p :: Y) = (k, b) :: p :: restB k b true Y := by
  have hp : p.1 ≠ k := fun h => before_ne hb h.symm
  have h : adel (p :: Y) k = p :: adel Y k := by
    unfold adel
    rw [List.filter_cons_of_pos (by simpa using hp)]
  unfold restB
  rw [if_neg (by decide), if_pos rfl, h, ains, if_pos hb]

theorem less_before : ∀ a b : List UInt8, Op.bytesLess a b = bytesBefore a b
  | [], [] => rfl
  | [], _ :: _ => rfl
  | _ :: _, [] => rfl
  | a :: x, b :: y => by
    unfold Op.bytesLess bytesBefore
    rw [less_before x y]
/-- A pair that is laid, as append takes it. -/
theorem pair_lit2 (s : ByteArray) (xs : List UInt8) (w : World) : RowSl pairC 2 (w.alloc (.cells #[.string s, .string (strB xs)] 99)) Empty (some ⟨w.heap.size, 0, none⟩) 1 1 [(s.data.toList, xs)] := pair_lit (s.data.toList, xs) w

/-- A block that is no row of the call's own stays while such a row grows. -/
theorem keep_grown {W w0 w' : World} {base q no co : Nat} {Ao : Option Addr} {t t2 : TypeId} {cs : Array Value} {k : Nat} (hgr : W.grownBy w' (Value.slice Ao no co).ownBlock) (hr : ∀ g, (Value.slice Ao no co).ownBlock = some g → base ≤ g)
    (here : Ao = none ∨ ∃ g cur, Ao = some ⟨g, 0, none⟩ ∧ base ≤ g ∧ Blk w0 g t2 cur ∧ cur.size = co * k) (hq : q < base ∨ w0.heap.size ≤ q) (hB : Blk W q t cs) : Blk w' q t cs := by
  have hO : Only (fun x => (Value.slice Ao no co).ownBlock = some x) W w' := Only.of_grown hgr (fun x e _ => e)
  refine hO.blk hB (fun h => ?_)
  have h1 := hr q h
  rw [own_block] at h
  rcases here with h2 | ⟨g, cur, h2, h3, h4, _⟩
  · rw [h2] at h; cases h
  · rw [h2] at h
    have h5 : g = q := by simpa using h
    have := h4.lt
    omega

set_option maxHeartbeats 8000000 in
theorem refApply_any (S : Nat → Prop) (A A2 : Option Addr) (n m cap cap2 : Nat) (Y : AB) (l : List Ch) (w : World) (hS : ∀ q, w.heap.size ≤ q → ¬ S q) (hR : RowSl pairC 2 w S A n cap Y) (hA : A = none → n = 0 ∧ cap = 0) (hC : Chs w Empty A2 m cap2 l) (hn : n ≤ 3000) (hm : m ≤ 16) :
    Calls Tryz.prog 14 #[.slice A n cap, .slice A2 m cap2] w fun e1 w' => (∃ A' n' cap', e1 = .returned (.slice A' n' cap') ∧ RowSl pairC 2 w' S A' n' cap' (applyBL Y l) ∧ (A' = none → n' = 0 ∧ cap' = 0)) ∧ Below w.heap.size w w' := by
  have HC := Lib.hid hC
  have HR := Lib.hid hR
  have HA := Lib.hid hA
  have hcap : m ≤ cap2 := hC.2.1
  have hcap2 : cap2 ≤ 9223372036854775807 := by have := hC.2.2.1; unfold maxLen at this; omega
  have hlm := hC.1
  clear hC hR hA
  go_enter Tryz.func14, Tryz.ntmps14
  go_wp2_with fail
  go_loopw [0, 13] (fun a v wr => ∃ (i n1 c1 : Nat) (A1 : Option Addr), i ≤ m ∧ n1 ≤ n + i ∧ a = .slice A1 n1 c1 ∧ v = .int .i64 (i : Int) ∧ Hid (RowSl pairC 2 wr S A1 n1 c1 (applyBL Y (l.take i))) ∧ Hid (A1 = none → n1 = 0 ∧ c1 = 0) ∧ Hid (Below w.heap.size w wr)) (fun _ v _ => m - (intOf v).toNat)
  case atStart => exact ⟨0, n, cap, A, by omega, by omega, rfl, rfl, HR, HA, Lib.hid (Below.refl _ _)⟩
  case round =>
    clear HR HA
    obtain ⟨i, n1, k1, A1, hi, hn1, rfl, rfl, HR, HA, HB⟩ := hrel
    by_cases hlt : i < m
    · obtain ⟨b, o, f, hAe, hb, -, hf, hc⟩ := (HC.out.only (Only.of_below (S := Empty) HB.out) (fun _ _ h => h)).at_ hlt
      have c0 : wr.cell? ⟨b, o + i * 3, none⟩ = some (.bool f.del) := hc 0 (by omega)
      have c1 : wr.cell? ⟨b, o + i * 3 + 1, none⟩ = some (.string f.s) := hc 1 (by omega)
      have c2 : wr.cell? ⟨b, o + i * 3 + 2, none⟩ = some (.slice f.A f.n f.cap) := hc 2 (by omega)
      have htk := take_snoc l i f hf
      have Hap : Hid (applyBL Y (l.take (i + 1)) = applyB (applyBL Y (l.take i)) f) := Lib.hid (by rw [htk]; unfold applyBL; rw [List.foldl_append]; rfl)
      have Hfb : Hid (ByteSl w Empty f.A f.n f.cap f.blob) := Lib.hid (HC.out.2.2.2.2 f (List.mem_of_getElem? hf)).1
      obtain ⟨Y1, hY1⟩ : ∃ Y1, Y1 = applyBL Y (l.take i) := ⟨_, rfl⟩
      rw [← hY1] at HR Hap
      have hln1 := HR.out.1
      have hnc1 := HR.out.2.1
      have hcc1 : k1 ≤ 9223372036854775807 := by have := HR.out.2.2.1; unfold maxLen at this; omega
      have hB6 := Blk.new wr 37 #[.bool f.del, .string f.s, .slice f.A f.n f.cap]
      have HB6 := Lib.hid hB6
      have HBa := Lib.hid (HB.out.alloc HB.out.size (.cells #[.bool f.del, .string f.s, .slice f.A f.n f.cap] 37))
      have HRa := Lib.hid (HR.out.below ((Below.refl wr.heap.size wr).alloc (Nat.le_refl _) (.cells #[.bool f.del, .string f.s, .slice f.A f.n f.cap] 37)))
      have hsw : w.heap.size ≤ wr.heap.size := HB.out.size
      subst hAe
      clear hc hf htk hY1 hB6
      go_wp2_with fail
      obtain ⟨g6, hg6⟩ : ∃ g6, g6 = wr.heap.size := ⟨_, rfl⟩
      obtain ⟨wa, hwa⟩ : ∃ wa, wa = wr.alloc (.cells #[.bool f.del, .string f.s, .slice f.A f.n f.cap] 37) := ⟨_, rfl⟩
      rw [← hwa] at HB6 HBa HRa ⊢
      rw [← hg6] at HB6 ⊢
      have hg6l : g6 < wa.heap.size := HB6.out.lt
      have hwa2 : w.heap.size ≤ wa.heap.size := HBa.out.size
      clear hwa hg6 c0 c1 c2 HB
      go_loopw [7, 8, 21] (fun r d v W => ∃ (j no co : Nat) (Ao : Option Addr) (dd : Bool) (O : AB), j ≤ n1 ∧ no ≤ j + 1 ∧ (dd = false → no ≤ j) ∧ r = .slice Ao no co ∧ d = .bool dd ∧ v = .int .i64 (j : Int) ∧ Hid (Prs wa.heap.size W Ao no co O) ∧ Hid (O ++ restB f.s.data.toList f.blob dd (Y1.drop j) = applyB Y1 f) ∧ Hid (Below wa.heap.size wa W)) (fun _ _ v _ => n1 - (intOf v).toNat)
      case atStart =>
        refine ⟨0, 0, 0, none, f.del, [], by omega, by omega, by omega, rfl, rfl, rfl, Lib.hid (GotR.nil_ _ _ _ _ _), Lib.hid ?_, Lib.hid (Below.refl _ _)⟩
        unfold restB applyB aput
        simp only [List.nil_append, List.drop_zero]
      case round =>
        obtain ⟨j, no, co, Ao, dd, O, hj, hno, hno2, rfl, rfl, rfl, HO, HE, HBo⟩ := hrel
        have hB6 := (Only.of_below (S := Empty) HBo.out).blk HB6.out (fun h => h)
        have c0 := hB6.cell 0
        have c1 := hB6.cell 1
        have c2 := hB6.cell 2
        simp only [List.getElem?_toArray, List.getElem?_cons_zero, List.getElem?_cons_succ] at c0 c1 c2
        have hg6r := hB6.lt
        by_cases hjl : j < n1
        · obtain ⟨b2, o2, q, hA2, hb2, -, hq, hcq⟩ := (HRa.out.below HBo.out).at_ hjl
          obtain ⟨kq, xq⟩ := q
          have d0 : wr.cell? ⟨b2, o2 + j * 2, none⟩ = some (.string ⟨kq.toArray⟩) := hcq 0 (by omega)
          have d1 : wr.cell? ⟨b2, o2 + j * 2 + 1, none⟩ = some (.string ⟨xq.toArray⟩) := hcq 1 (by omega)
          subst hA2
          clear hcq
          have hdr : Y1.drop j = (kq, xq) :: Y1.drop (j + 1) := by
            have h1 := (List.getElem?_eq_some_iff.1 hq)
            rw [List.drop_eq_getElem_cons h1.1, h1.2]
          rw [hdr] at HE
          have e1 := str_list f.s
          have e2 := less_before f.s.toList kq
          obtain ⟨C, hC⟩ : ∃ C, C = Obj.cells #[.string ⟨kq.toArray⟩, .string ⟨xq.toArray⟩] 99 := ⟨_, rfl⟩
          have hsz1 : (wr.alloc C).heap.size = wr.heap.size + 1 := by rw [hC]; simp
          have hsz2 : ((wr.alloc C).alloc C).heap.size = wr.heap.size + 2 := by rw [hC]; simp
          have hswr : wa.heap.size ≤ wr.heap.size := HBo.out.size
          have Hrow : Hid (RowSl pairC 2 ((wr.alloc C).alloc C) Empty (some ⟨wr.heap.size + 1, 0, none⟩) 1 1 [(kq, xq)]) := Lib.hid (by have h := pair_lit (kq, xq) (wr.alloc C); rw [hsz1] at h; rw [hC] at h ⊢; exact h)
          have HO1 := Lib.hid ((HO.out.alloc pair_len C).alloc pair_len C)
          have HB1 := Lib.hid ((HBo.out.alloc hswr C).alloc (by rw [hsz1]; omega) C)
          have HBc := Lib.hid (HBo.out.alloc hswr C)
          have Hex : Hid (∀ k, k = f.s.data.toList → f.s.toList = k) := Lib.hid (fun k hk => by rw [hk]; exact e1)
          cases hkk : (kq == f.s.toList) with
          | true =>
            have hkq : kq = f.s.data.toList := by rw [← e1]; simpa using hkk
            have hle : Op.bytesLess f.s.toList kq = false := by
              rw [e2, e1, ← hkq]
              exact Bool.eq_false_iff.2 (before_irr kq)
            have HE2 := HE.out
            rw [restB_same hkq] at HE2
            have HE3 := Lib.hid HE2
            have hkk2 : (!kq == f.s.toList) = false := by rw [hkk]; rfl
            clear HE HE2 hkq e1 e2 hdr hq hsz1 hsz2 HO1 HB1 Hrow
            have HOc := Lib.hid (HO.out.alloc pair_len C)
            rw [hC] at HOc HBc
            clear hC
            cases dd with
            | true =>
              go_wp2_with fail
              go_roundw
              case rel => exact ⟨j + 1, no, co, Ao, true, O, by omega, by omega, (fun h => by cases h), rfl, rfl, by simp, HOc, HE3, HBc⟩
              case measure => simp [intOf]; omega
            | false =>
              go_wp2_with fail
              go_roundw
              case rel => exact ⟨j + 1, no, co, Ao, false, O, by omega, by omega, (fun _ => by have := hno2 rfl; omega), rfl, rfl, by simp, HOc, HE3, HBc⟩
              case measure => simp [intOf]; omega
          | false =>
            have hkq : (kq, xq).1 ≠ f.s.data.toList := by rw [← e1]; simpa using hkk
            have hkk2 : (!kq == f.s.toList) = true := by rw [hkk]; rfl
            cases hd2 : (!dd && Op.bytesLess f.s.toList kq) with
            | false =>
              have HE2 := HE.out
              rw [restB_skip hkq (by
                cases dd with
                | true => exact Or.inl rfl
                | false =>
                  right
                  have h3 : Op.bytesLess f.s.toList kq = false := by simpa using hd2
                  rw [e2, e1] at h3
                  exact Bool.eq_false_iff.1 h3)] at HE2
              have HE3 : Hid (O ++ [(kq, xq)] ++ restB f.s.data.toList f.blob dd (Y1.drop (j + 1)) = applyB Y1 f) := Lib.hid (by rw [List.append_assoc]; exact HE2)
              clear HE HE2 hkq e1 e2 hdr hq
              rw [hC] at Hrow HO1 HB1 hsz2
              clear hC hsz1 HBc
              cases dd with
              | true =>
                go_wp2_with (at_builtin; refine wpList_append_prs rfl _ _ rfl wa.heap.size Ao no co O rfl HO1.out _ 1 1 _ rfl Hrow.out (fun h => by cases h) (by omega) (by rw [hsz2]; omega) ?_; intro A4 c4 w4 hg4 hgr4 hr4)
                have HB4 := Lib.hid (below_gotR HB1.out (by rw [hsz2]; omega) hgr4 hr4 (Nat.le_refl _))
                have HO4 := Lib.hid hg4
                clear hg4 hgr4 hr4
                go_roundw
                case rel => exact ⟨j + 1, no + 1, c4, A4, true, O ++ [(kq, xq)], by omega, by omega, (fun h => by cases h), rfl, rfl, by simp, HO4, HE3, HB4⟩
                case measure => simp [intOf]; omega
              | false =>
                have hle : Op.bytesLess f.s.toList kq = false := by simpa using hd2
                go_wp2_with (at_builtin; refine wpList_append_prs rfl _ _ rfl wa.heap.size Ao no co O rfl HO1.out _ 1 1 _ rfl Hrow.out (fun h => by cases h) (by omega) (by rw [hsz2]; omega) ?_; intro A4 c4 w4 hg4 hgr4 hr4)
                have HB4 := Lib.hid (below_gotR HB1.out (by rw [hsz2]; omega) hgr4 hr4 (Nat.le_refl _))
                have HO4 := Lib.hid hg4
                clear hg4 hgr4 hr4
                go_roundw
                case rel => exact ⟨j + 1, no + 1, c4, A4, false, O ++ [(kq, xq)], by omega, by omega, (fun _ => by have := hno2 rfl; omega), rfl, rfl, by simp, HO4, HE3, HB4⟩
                case measure => simp [intOf]; omega
            | true =>
              have hdd : dd = false ∧ Op.bytesLess f.s.toList kq = true := by
                cases dd with
                | true => cases hd2
                | false => exact ⟨rfl, by simpa using hd2⟩
              obtain ⟨rfl, hle⟩ := hdd
              have hno3 := hno2 rfl
              have HE2 := HE.out
              rw [restB_put (by rw [← e1, ← e2]; exact hle)] at HE2
              have HE3 : Hid (O ++ [(f.s.data.toList, f.blob)] ++ [(kq, xq)] ++ restB f.s.data.toList f.blob true (Y1.drop (j + 1)) = applyB Y1 f) := Lib.hid (by rw [List.append_assoc, List.append_assoc]; exact HE2)
              have hcv := conv_bytes ((Hfb.out.only (Only.of_below (S := Empty) HBa.out) (fun _ _ h => h)).only (Only.of_below (S := Empty) (HBo.out.alloc hswr C)) (fun _ _ h => h))
              obtain ⟨C2, hC2⟩ : ∃ C2, C2 = Obj.cells #[.string f.s, .string (strB f.blob)] 99 := ⟨_, rfl⟩
              have hsz3 : ((wr.alloc C).alloc C2).heap.size = wr.heap.size + 2 := by rw [hC, hC2]; simp
              have Hrow2 : Hid (RowSl pairC 2 ((wr.alloc C).alloc C2) Empty (some ⟨wr.heap.size + 1, 0, none⟩) 1 1 [(f.s.data.toList, f.blob)]) := Lib.hid (by have h := pair_lit2 f.s f.blob (wr.alloc C); rw [hsz1] at h; rw [hC2]; exact h)
              have HO2 := Lib.hid ((HO.out.alloc pair_len C).alloc pair_len C2)
              have HB2 := Lib.hid ((HBo.out.alloc hswr C).alloc (by rw [hsz1]; omega) C2)
              have hP0 : Blk (wr.alloc C) wr.heap.size 99 #[.string ⟨kq.toArray⟩, .string ⟨xq.toArray⟩] := by rw [hC]; exact Blk.new wr 99 _
              have hB6c : Blk ((wr.alloc C).alloc C2) g6 37 #[.bool f.del, .string f.s, .slice f.A f.n f.cap] := (hB6.alloc C).alloc C2
              have hPc : Blk ((wr.alloc C).alloc C2) wr.heap.size 99 #[.string ⟨kq.toArray⟩, .string ⟨xq.toArray⟩] := hP0.alloc C2
              have HPc := Lib.hid hPc
              have HB6c := Lib.hid hB6c
              have Hhere := Lib.hid HO.out.here
              clear HE HE2 hkq e1 e2 hdr hq HO1 HB1 Hrow hsz2 hP0 hB6c hPc hB6
              rw [hC] at hcv
              rw [hC, hC2] at HO2 HB2 Hrow2 HPc HB6c hsz3
              clear hC2 HBc hsz1
              subst hC
              go_wp2_with (first | (at_builtin; refine wpList_append_prs rfl _ _ rfl wa.heap.size Ao no co O rfl HO2.out _ 1 1 _ rfl Hrow2.out (fun h => by cases h) (by omega) (by rw [hsz3]; omega) ?_; intro A4 c4 w4 hg4 hgr4 hr4; have HB4 := Lib.hid (below_gotR HB2.out (by rw [hsz3]; omega) hgr4 hr4 (Nat.le_refl _)); have hs4 := HB4.out.size; have hg6b := keep_grown hgr4 hr4 Hhere.out (Or.inl hg6l) HB6c.out; have hP4 := keep_grown hgr4 hr4 Hhere.out (Or.inr (Nat.le_refl _)) HPc.out; have HO4 := Lib.hid hg4; have k0 : w4.cell? ⟨g6, 0, none⟩ = some (.bool f.del) := hg6b.cell 0; have k1 : w4.cell? ⟨g6, 1, none⟩ = some (.string f.s) := hg6b.cell 1; have p0 : w4.cell? ⟨wr.heap.size, 0, none⟩ = some (.string ⟨kq.toArray⟩) := hP4.cell 0; have p1 : w4.cell? ⟨wr.heap.size, 1, none⟩ = some (.string ⟨xq.toArray⟩) := hP4.cell 1; have g6l4 := hg6b.lt; have pl4 := hP4.lt; clear hg4 hgr4 hr4 hg6b hP4) | (at_builtin; refine wpList_append_prs rfl _ _ rfl wa.heap.size A4 (no + 1) c4 (O ++ [(f.s.data.toList, f.blob)]) rfl (HO4.out.alloc pair_len _) _ 1 1 [(kq, xq)] rfl (pair_lit (kq, xq) w4) (fun h => by cases h) (by omega) (by simp; omega) ?_; intro A5 c5 w5 hg5 hgr5 hr5))
              have HB5 := Lib.hid (below_gotR (HB4.out.alloc hs4 _) (by simp; omega) hgr5 hr5 (Nat.le_refl _))
              have HO5 := Lib.hid hg5
              clear hg5 hgr5 hr5
              go_roundw
              case rel => exact ⟨j + 1, no + 2, c5, A5, true, _, by omega, by omega, (fun h => by cases h), rfl, rfl, by simp, HO5, HE3, HB5⟩
              case measure => simp [intOf]; omega
        · have hjn : j = n1 := by omega
          have hdr : Y1.drop j = [] := List.drop_of_length_le (by omega)
          rw [hdr, restB_nil] at HE
          clear hdr
          cases dd with
          | true =>
            have HE2 : Hid (O = applyB Y1 f) := Lib.hid (by have := HE.out; rw [if_pos rfl, List.append_nil] at this; exact this)
            have HR2 : Hid (RowSl pairC 2 wr S Ao no co (applyBL Y (l.take (i + 1)))) := Lib.hid (by rw [Hap.out, ← HE2.out]; exact HO.out.out (fun q h1 _ => hS q (by omega)))
            have HA2 : Hid (Ao = none → no = 0 ∧ co = 0) := Lib.hid HO.out.isNil
            have HB2 := Lib.hid (HBa.out.trans (HBo.out.mono hwa2))
            go_wp2_with fail
            go_roundw
            case rel => exact ⟨i + 1, no, co, Ao, by omega, by omega, rfl, by simp, HR2, HA2, HB2⟩
            case measure => simp [intOf]; omega
          | false =>
            have hno3 := hno2 rfl
            have HE2 : Hid (O ++ [(f.s.data.toList, f.blob)] = applyB Y1 f) := Lib.hid (by have := HE.out; rw [if_neg (by decide)] at this; exact this)
            have hcv := conv_bytes ((Hfb.out.only (Only.of_below (S := Empty) HBa.out) (fun _ _ h => h)).only (Only.of_below (S := Empty) HBo.out) (fun _ _ h => h))
            have Hrow2 := Lib.hid (pair_lit2 f.s f.blob wr)
            have hswr : wa.heap.size ≤ wr.heap.size := HBo.out.size
            have HO2 := Lib.hid (HO.out.alloc pair_len (.cells #[.string f.s, .string (strB f.blob)] 99))
            have HB2 := Lib.hid (HBo.out.alloc hswr (.cells #[.string f.s, .string (strB f.blob)] 99))
            clear HE
            go_wp2_with (at_builtin; refine wpList_append_prs rfl _ _ rfl wa.heap.size Ao no co O rfl HO2.out _ 1 1 _ rfl Hrow2.out (fun h => by cases h) (by omega) (by simp; omega) ?_; intro A4 c4 w4 hg4 hgr4 hr4)
            have HB4 := Lib.hid (below_gotR HB2.out (by simp; omega) hgr4 hr4 (Nat.le_refl _))
            have HR4 : Hid (RowSl pairC 2 w4 S A4 (no + 1) c4 (applyBL Y (l.take (i + 1)))) := Lib.hid (by rw [Hap.out, ← HE2.out]; exact hg4.out (fun q h1 _ => hS q (by omega)))
            have HA4 : Hid (A4 = none → no + 1 = 0 ∧ c4 = 0) := Lib.hid hg4.isNil
            have HB5 := Lib.hid (HBa.out.trans (HB4.out.mono hwa2))
            clear hg4 hgr4 hr4
            go_roundw
            case rel => exact ⟨i + 1, no + 1, c4, A4, by omega, by omega, rfl, by simp, HR4, HA4, HB5⟩
            case measure => simp [intOf]; omega
    · have hin : i = m := by omega
      subst hin
      have ht : l.take i = l := List.take_of_length_le (by omega)
      rw [ht] at HR
      go_wp2_with fail
      go_ret
      exact ⟨⟨A1, n1, k1, rfl, HR.out, HA.out⟩, HB.out⟩

end Go.Proofs.YtnhfmcijadficaaGreatDoor

/- The walk over law 08's fixed. -/
namespace Go.Proofs.YtnhfmcijadficaaGreatDoor
set_option maxRecDepth 100000
open Go.RowKit Go.Maps

set_option maxHeartbeats 1000000 in
theorem mount_nil (w : World) : Calls Tryz.prog 10 #[.pointer none] w fun e1 w' => e1 = .returned (.tuple #[.pointer none, .int .i64 1]) ∧ Below w.heap.size w w' := by
  go_enter Tryz.func10, Tryz.ntmps10
  go_wp2_with fail
  go_ret2
  exact ⟨rfl, Below.refl _ _⟩

/-- The change of the law's fixed. -/
def fixCh (g : Nat) : Ch := ⟨false, ⟨#[97]⟩, some ⟨g, 0, none⟩, 2, 2, [120, 121]⟩
theorem fix_refu (g : Nat) : refuC [fixCh g] 116 = 0 := by rfl
theorem fix_room (g : Nat) : roomL [fixCh g] = 35 := by rfl

set_option maxHeartbeats 8000000 in
theorem fixed8_any (w : World) (hM : Mark w) :
    Calls Tryz.prog 7 #[] w fun e w' => e = .returned (.bool true) ∧ Below w.heap.size w w' := by
  have HM := Lib.hid hM
  have Hnew := Lib.hid (new_yes 4 128 9 w ⟨by decide, by decide, by decide, by decide, by decide, by decide⟩)
  have h0w : 0 < w.heap.size := hM.pos
  clear hM
  go_enter Tryz.func7, Tryz.ntmps7
  go_wp2_with fail
  refine Hnew.out.mono ?_
  rintro e1 w1 ⟨p, c, er, rfl, hfl, hb1, hp, hc, he⟩
  have Hfs := Lib.hid (FS.fresh hfl)
  have Hb1 := Lib.hid hb1
  have Hmo := Lib.hid (mount_none p c er 128 9 (freshS 4 128) w1 (FS.fresh hfl) (HM.out.below hb1) (fresh_no 4 128 (by decide)) (by rw [fresh_count 4 128 9 (by decide)]; decide))
  clear Hnew hfl hb1
  go_wp2_with fail
  refine Hmo.out.mono ?_
  rintro e2 w2 ⟨⟨s, mb, rfl, hG, hs, hm⟩, hb2⟩
  have hG2 := Lib.hid hG
  have Hb2 := Lib.hid (Hb1.out.trans (hb2.mono Hb1.out.size))
  have kc := fun (w : World) (C : Array Value) (n c : Nat) => Lib.run_convert_bytes_const (P := Tryz.prog) w 22 5 C n c Tryz.underlying22 Tryz.underlying5
  have h1w := Hb1.out.size
  have hmut : ∀ q, Mut s mb p c er q → w.heap.size ≤ q ∧ q < w2.heap.size := by
    intro q hq
    have hS := hG.st
    rcases hq with rfl | rfl | hq
    · exact ⟨by omega, hS.blk.lt⟩
    · exact ⟨by omega, hS.map.lt⟩
    · refine ⟨?_, hG.fs.lt q hq⟩
      rcases hq with rfl | rfl | rfl <;> assumption
  clear hG hb2 Hmo
  go_wp2_with fail
  have hal : Below w2.heap.size w2 ((w2.alloc (.cells #[.int .u8 120, .int .u8 121] 5 (2, 3))).alloc (.cells #[.bool false, .string ⟨#[97]⟩, .slice (some ⟨w2.heap.size, 0, none⟩) 2 2] 37)) := ((Below.refl w2.heap.size w2).alloc (Nat.le_refl _) _).alloc (by simp) _
  have hbs : ByteSl (w2.alloc (.cells #[.int .u8 120, .int .u8 121] 5 (2, 3))) (Mut s mb p c er) (some ⟨w2.heap.size, 0, none⟩) 2 2 [120, 121] := ByteSl.marked w2 _ [120, 121] 2 (2, 3) rfl (fun h => by have := (hmut _ h).2; omega) (by decide)
  have hsz : (w2.alloc (.cells #[.int .u8 120, .int .u8 121] 5 (2, 3))).heap.size = w2.heap.size + 1 := by simp
  have hch := chs_lit (S := Mut s mb p c er) (fixCh w2.heap.size) ⟨hbs, fun h => by cases h⟩ (fun h => by have := (hmut _ h).2; omega)
  rw [hsz] at hch
  have hch2 : Chs ((w2.alloc (.cells #[.int .u8 120, .int .u8 121] 5 (2, 3))).alloc (.cells #[.bool false, .string ⟨#[97]⟩, .slice (some ⟨w2.heap.size, 0, none⟩) 2 2] 37)) (Mut s mb p c er) (some ⟨w2.heap.size + 1, 0, none⟩) 1 1 [fixCh w2.heap.size] := hch
  obtain ⟨w3, hw3⟩ : ∃ w3, w3 = (w2.alloc (.cells #[.int .u8 120, .int .u8 121] 5 (2, 3))).alloc (.cells #[.bool false, .string ⟨#[97]⟩, .slice (some ⟨w2.heap.size, 0, none⟩) 2 2] 37) := ⟨_, rfl⟩
  rw [← hw3] at hal hch2 ⊢
  have HG3 := Lib.hid (hG2.out.below hal)
  have Hb3 := Lib.hid (Hb2.out.trans (hal.mono Hb2.out.size))
  have Hco := Lib.hid (commit_any s mb p c er 128 9 [] ⟨0, 0, 0, 0⟩ (freshS 4 128) (some ⟨w2.heap.size + 1, 0, none⟩) 1 1 [fixCh w2.heap.size] w3 HG3.out (by decide) hch2 (by decide)
    (fun q hq => by have := Hfs.out.lt q hq; omega)
    (fun h => by have := (hmut _ h).1; omega) (by decide))
  have Hmut := Lib.hid hmut
  have hs3 : w2.heap.size ≤ w3.heap.size := hal.size
  clear hw3 hal hbs hsz hch hch2 hG2 Hb2 hmut kc
  refine Hco.out.mono ?_
  rintro e4 w4 hO
  obtain ⟨rfl, M', h', ss', hG4, hss, hbl, _, hon⟩ := hO.easy HG3.out (fix_refu _) (fun _ => opens_fresh (by decide) (by decide))
  obtain ⟨f, rfl, hfx⟩ := one_blob (k := [97]) (b := [120, 121]) hbl
  have hfn : f.n = 2 := by
    have := hG4.lenM ([97], f) (List.mem_singleton.2 rfl)
    rw [hfx] at this
    exact this.symm
  have hb4 := Hb3.out.trans (hon.below Hb3.out.size (fun k hk h => by have := (Hmut.out _ h).1; omega))
  have Hb4 := Lib.hid hb4
  have Ga := Lib.hid (fun W (hW : Below w4.heap.size w4 W) => get_any s mb p c er [([97], f)] h' false ⟨#[97]⟩ Empty W (hG4.st.below hW) (by decide) (by show f.n ≤ _; omega))
  have Gb := Lib.hid (fun W (hW : Below w4.heap.size w4 W) => get_any s mb p c er [([97], f)] h' false ⟨#[98]⟩ Empty W (hG4.st.below hW) (by decide) (by show (0 : Nat) ≤ _; omega))
  have hlive : liveL [([97], f)] = 35 := by
    show keyRoom [97] f.n + 0 = 35
    rw [hfn]
    rfl
  have Hli := Lib.hid (fun W (hW : Below w4.heap.size w4 W) => live_any s mb p c er [([97], f)] h' false W (hG4.st.below hW) (by show 1 ≤ 65536; omega) hG4.fair)
  have Hro := Lib.hid (fun W (hW : Below w4.heap.size w4 W) => room_any s mb p c er 128 9 ss' [([97], f)] h' false W (hG4.st.below hW) (hG4.fs.below hW))
  rw [hss, freshS_len] at Hro
  have hroom : roomMax 4 128 = 58 := by decide
  rw [hroom] at Hro
  rw [hlive] at Hli
  have hsv : svAt [([97], f)] (⟨#[97]⟩ : ByteArray).data.toList = f := rfl
  have haf : (afind [([97], f)] (⟨#[97]⟩ : ByteArray).data.toList).isSome = true := rfl
  have haf2 : (afind [([97], f)] (⟨#[98]⟩ : ByteArray).data.toList).isSome = false := rfl
  rw [hsv, haf, hfn, hfx] at Ga
  rw [haf2] at Gb
  clear hon hb4 hO Hco HG3 hG4 hbl hsv haf haf2 hlive hroom
  go_wp2_with fail
  refine (Ga.out w4 (Below.refl _ _)).mono ?_
  rintro e5 w5 ⟨⟨A5, c5, rfl, hgot⟩, hb5⟩
  have Hb5 := Lib.hid hb5
  have HGot := Lib.hid hgot
  clear Ga hb5 hgot
  go_wp2_with fail
  refine (Gb.out w5 Hb5.out).mono ?_
  rintro e6 w6 ⟨⟨A6, c6, rfl, _⟩, hb6⟩
  have Hb6 := Lib.hid (Hb5.out.trans (hb6.mono Hb5.out.size))
  have HGot6 := Lib.hid (HGot.out.next hb6)
  have Hmn := Lib.hid (mount_nil w6)
  clear Gb hb6
  go_wp2_with fail
  refine Hmn.out.mono ?_
  rintro e7 w7 ⟨rfl, hb7⟩
  have Hb7 := Lib.hid (Hb6.out.trans (hb7.mono Hb6.out.size))
  have hB7 := (HGot6.out.next hb7).bytes
  have hcv := conv_bytes hB7
  have heq : (strB [120, 121]).toList = [120, 121] := strB_toList _
  clear Hmn hb7 HGot6 HGot
  go_wp2_with fail
  refine (Hli.out w7 Hb7.out).mono ?_
  rintro e8 w8 ⟨rfl, hb8⟩
  have Hb8 := Lib.hid (Hb7.out.trans (hb8.mono Hb7.out.size))
  clear Hli hb8
  go_wp2_with fail
  refine (Hro.out w8 Hb8.out).mono ?_
  rintro e9 w9 ⟨rfl, hb9⟩
  have Hb9 := Lib.hid (Hb8.out.trans (hb9.mono Hb8.out.size))
  clear Hro hb9
  go_wp2
  go_ret
  exact ⟨rfl, Hb4.out.trans (Hb9.out.mono Hb4.out.size)⟩

end Go.Proofs.YtnhfmcijadficaaGreatDoor

/- The walks over a nil store's calls; over Sectors. -/
namespace Go.Proofs.YtnhfmcijadficaaGreatDoor
set_option maxRecDepth 100000
open Go.RowKit Go.Maps

theorem get_nil (k : ByteArray) (w : World) : Calls Tryz.prog 28 #[.pointer none, .string k] w fun e1 w' => e1 = .returned (.tuple #[.slice none 0 0, .bool false]) ∧ Below w.heap.size w w' := by
  go_enter Tryz.func28, Tryz.ntmps28
  go_wp2_with fail
  go_ret2
  exact ⟨rfl, Below.refl _ _⟩
theorem keys_nil (k : ByteArray) (w : World) : Calls Tryz.prog 43 #[.pointer none, .string k] w fun e1 w' => e1 = .returned (.slice none 0 0) ∧ Below w.heap.size w w' := by
  go_enter Tryz.func43, Tryz.ntmps43
  go_wp2_with fail
  go_ret
  exact ⟨rfl, Below.refl _ _⟩
theorem live_nil (w : World) : Calls Tryz.prog 29 #[.pointer none] w fun e1 w' => e1 = .returned (.int .i64 0) ∧ Below w.heap.size w w' := by
  go_enter Tryz.func29, Tryz.ntmps29
  go_wp2_with fail
  go_ret
  exact ⟨rfl, Below.refl _ _⟩
theorem room_nil (w : World) : Calls Tryz.prog 30 #[.pointer none] w fun e1 w' => e1 = .returned (.int .i64 0) ∧ Below w.heap.size w w' := by
  go_enter Tryz.func30, Tryz.ntmps30
  go_wp2_with fail
  go_ret
  exact ⟨rfl, Below.refl _ _⟩
theorem commit_nil (A : Option Addr) (n cap : Nat) (w : World) : Calls Tryz.prog 12 #[.pointer none, .slice A n cap] w fun e1 w' => e1 = .returned (.int .i64 5) ∧ Below w.heap.size w w' := by
  go_enter Tryz.func12, Tryz.ntmps12
  go_wp2_with fail
  refine (down_nil w).mono ?_
  rintro e1 w1 ⟨rfl, rfl⟩
  go_wp2_with fail
  go_ret
  exact ⟨rfl, Below.refl _ _⟩


/-- A store's blobs lie in no block whose first cell is no byte. -/
theorem BlobsAt.apart {w : World} {S : Nat → Prop} {M : Al Sv} (h : BlobsAt w S M) {g : Nat} {t : TypeId} {cs : Array Value} (hB : Blk w g t cs) (hc : ∀ x : UInt8, cs[0]? ≠ some (B8 x)) : BlobsAt w (fun q => S q ∨ q = g) M := by
  intro q hq
  obtain ⟨h1, h2⟩ := h q hq
  refine ⟨⟨h1.1, h1.2.1, h1.2.2.1, fun hn => ?_⟩, h2⟩
  obtain ⟨ad, ha, hl, hs, hx⟩ := h1.2.2.2 hn
  refine ⟨ad, ha, hl, fun hor => ?_, hx⟩
  rcases hor with h3 | h3
  · exact hs h3
  · obtain ⟨b, hb⟩ : ∃ b, ad = ⟨b, 0, none⟩ := by
      cases hg : q.2.g with
      | none => rw [hg] at ha; cases ha
      | some b => rw [hg] at ha; exact ⟨b, (Option.some.inj ha).symm⟩
    subst hb
    have hb2 : b = g := h3
    subst hb2
    obtain ⟨x, hx0⟩ : ∃ x, q.2.xs[0]? = some x := ⟨_, List.getElem?_eq_getElem (by rw [h1.1]; exact hn)⟩
    have h4 := hx 0 x hx0
    have h5 : w.cell? ⟨b, 0, none⟩ = some (B8 x) := h4
    rw [hB.cell] at h5
    exact hc x h5
/-- A block that is none of the store's turns. -/
theorem GoodX.turn {w w' : World} {s mb p c e Z L : Nat} {M : Al Sv} {h : HeadV} {ss : List (Nat × List UInt8)} (G : GoodX w s mb p c e Z L M h ss) {g : Nat} {t : TypeId} {cs : Array Value} (hB : Blk w g t cs) (hc : ∀ x : UInt8, cs[0]? ≠ some (B8 x)) (hO : Only (· = g) w w') (hg : ¬ Mut s mb p c e g) (h0 : g ≠ 0) : GoodX w' s mb p c e Z L M h ss := by
  have n1 : ¬ s = g := fun h => hg (Or.inl h.symm)
  have n2 : ¬ mb = g := fun h => hg (Or.inr (Or.inl h.symm))
  have n3 : ∀ q, Three p c e q → ¬ q = g := fun q hq h => hg (Or.inr (Or.inr (by rw [← h]; exact hq)))
  refine ⟨⟨hO.blk G.st.blk n1, G.st.map.only hO n2, fun q hq => ?_⟩, G.fs.of hO (n3 p (Or.inl rfl)) (n3 c (Or.inr (Or.inl rfl))) (n3 e (Or.inr (Or.inr rfl))), G.mark.only hO (fun h => h0 h.symm), G.ok, G.hd⟩
  obtain ⟨h1, h2⟩ := (G.st.bl.apart hB hc).only hO (fun i _ hi => Or.inr hi) q hq
  exact ⟨h1.mono (fun _ _ h => Or.inl h), h2⟩
theorem Outcome.good {w w' : World} {s mb p c e Z L : Nat} {M : Al Sv} {h : HeadV} {ss : List (Nat × List UInt8)} {l : List Ch} {e1 : Ending} (hO : Outcome s mb p c e Z L M h ss l w w' e1) (G : GoodX w s mb p c e Z L M h ss) :
    (∃ E : Int, e1 = .returned (.int .i64 E)) ∧ ∃ M' h' ss', GoodX w' s mb p c e Z L M' h' ss' ∧ ss'.length = ss.length ∧ M'.length ≤ M.length + 16 ∧ Only (Mut s mb p c e) w w' := by
  rcases hO with ⟨_, h2, h3⟩ | ⟨_, h2, h3, _⟩ | ⟨_, h2, PF, KF, M', h', ss', k, o, hpl, hG', hss, hX', hM', hl, hor, hh', hs', hkey, hkl, hon, _⟩
  · exact ⟨⟨_, h2⟩, M, h, ss, G.below h3, rfl, by omega, Only.of_below h3⟩
  · exact ⟨⟨_, h2⟩, M, h, ss, G.below h3, rfl, by omega, Only.of_below h3⟩
  · exact ⟨⟨_, h2⟩, M', h', ss', hG', hss, hM', hon⟩

end Go.Proofs.YtnhfmcijadficaaGreatDoor
