/- The document's pairs: rows of keys and blobs; the walks over law 08's pairs, over the document's Live and Same. -/
import Derived.Test.YtnhfmcijadficaaGreatDoorZbi
import Derived.Deep.QuietTactic
import Derived.BigQuiet
import Derived.Test.YtnhfmcijadficaaGreatDoorZaj
namespace Go.Proofs.YtnhfmcijadficaaGreatDoor
set_option maxRecDepth 100000
open Go.RowKit Go.Maps

abbrev Pr := List UInt8 × List UInt8
def pairC (q : Pr) : List Value := [encStr q.1, encStr q.2]
theorem pair_len (q : Pr) : (pairC q).length = 2 := rfl
theorem pair_one (q : Pr) : ∀ v ∈ pairC q, v.oneCell' = true := by
  intro v hv
  simp only [pairC, List.mem_cons, List.not_mem_nil, or_false] at hv
  rcases hv with rfl | rfl <;> rfl
theorem Tryz.infoPair : (Tryz.prog.info? 99).map (fun i => (i.zero, i.size, i.bytes)) = some (some (.agg #[.string ⟨#[]⟩, .string ⟨#[]⟩]), 2, 32) := by kernel_rfl
abbrev Prs := GotR pairC 2 99
theorem wpList_append_prs {ops : Array Oper} {rest : List Oper} {q : Oper} {u : Act} {w : World} {S : Nat → Prop} {Q : Exit → Act → World → Prop} (hgd : q.guard = none) (s x : Operand) (hq : q.op = .call { callee := .builtin .append, args := #[s, x], argTypes := #[34, 34] })
    (base : Nat) (B : Option Addr) (m0 c0 : Nat) (zs : List Pr) (hs : u.eval s = .slice B m0 c0) (hown : Prs base w B m0 c0 zs) (A : Option Addr) (m c : Nat) (l : List Pr)
    (hx : u.eval x = .slice A m c) (hB : RowSl pairC 2 w S A m c l) (hn : A = none → m = 0 ∧ c = 0) (hm : m0 + m ≤ 16777216) (hbase : base ≤ w.heap.size)
    (h : ∀ A' c' w', Prs base w' A' (m0 + m) c' (zs ++ l) → w.grownBy w' (Value.slice B m0 c0).ownBlock → (∀ g, (Value.slice B m0 c0).ownBlock = some g → base ≤ g) → wpList Tryz.prog ops Q rest (u.put q.dst (.slice A' (m0 + m) c')) w') : wpList Tryz.prog ops Q (q :: rest) u w :=
  wpList_append_rows pair_len pair_one (by decide) 34 99 _ 32 Tryz.underlying34 Tryz.infoPair (by simp [Value.cells]) (by decide) hgd s x hq base B m0 c0 zs hs hown A m c l hx hB hn hm hbase (fun A' c' w' h1 h2 h3 _ => h A' c' w' h1 h2 h3)
theorem pair_lit (q : Pr) (w : World) : RowSl pairC 2 (w.alloc (.cells #[encStr q.1, encStr q.2] 99)) Empty (some ⟨w.heap.size, 0, none⟩) 1 1 [q] :=
  RowSl.lit pair_len w Empty 99 [q] 1 [encStr q.1, encStr q.2] (by simp [pairC]) rfl (by decide) (fun h => h)

theorem get_enc (s mb p c e : Nat) (M : Al Sv) (h : HeadV) (d : Bool) (k : List UInt8) (w : World) (hS : StoreAt w s mb p c e M h d) (hk : k.length ≤ maxLen) (hn : (svAt M k).n ≤ 16777216) :
    Calls Tryz.prog 28 #[.pointer (some ⟨s, 0, none⟩), encStr k] w fun e1 w' => (∃ A' cap', e1 = .returned (.tuple #[.slice A' (svAt M k).n cap', .bool (afind M k).isSome]) ∧ Got w.heap.size w' A' (svAt M k).n cap' (svAt M k).xs) ∧ Below w.heap.size w w' :=
  get_any s mb p c e M h d ⟨k.toArray⟩ Empty w hS (by simpa [ByteArray.size] using hk) (by simpa using hn)
theorem blobs_at {M : Al Sv} (h : M.Pairwise (fun p q => bytesBefore p.1 q.1 = true)) {q : List UInt8 × Sv} (hq : q ∈ M) : (svAt M q.1).xs = q.2.xs ∧ (svAt M q.1).n = q.2.n := by rw [svAt_v (afind_of_mem h hq)]; exact ⟨rfl, rfl⟩

set_option maxHeartbeats 4000000 in
theorem pairs_any (s mb p c e Z L : Nat) (ss : List (Nat × List UInt8)) (M : Al Sv) (h : HeadV) (w : World) (hG : GoodX w s mb p c e Z L M h ss) (hM : M.length ≤ 1048576) :
    Calls Tryz.prog 11 #[.pointer (some ⟨s, 0, none⟩)] w fun e1 w' => (∃ A n cap, e1 = .returned (.slice A n cap) ∧ Prs w.heap.size w' A n cap (blobsOf (amap Sv.a M))) ∧ Below w.heap.size w w' := by
  have Hkeys := Lib.hid (keys_any s mb p c e M h false ⟨#[]⟩ w hG.st hM)
  have HG := Lib.hid hG
  have hbl : blobsOf (amap Sv.a M) = M.map fun q => (q.1, q.2.xs) := by unfold blobsOf amap; rw [List.map_map]; rfl
  have Hbl := Lib.hid hbl
  have Hat : Hid (∀ (i : Nat) (q : List UInt8 × Sv), M[i]? = some q → q.1.length ≤ 64 ∧ (svAt M q.1).n ≤ 4096 ∧ (svAt M q.1).xs = q.2.xs) := Lib.hid (fun i q hq => by
    have h1 := hG.fair q (List.mem_of_getElem? hq)
    have h2 := blobs_at hG.st.map.sorted (List.mem_of_getElem? hq)
    exact ⟨h1.1, by rw [h2.2]; exact h1.2, h2.1⟩)
  clear hG hbl
  go_enter Tryz.func11, Tryz.ntmps11
  go_wp2_with fail
  refine Hkeys.out.mono ?_
  rintro e1 w1 ⟨⟨A, n, cap, rfl, hg1⟩, hb1⟩
  rw [show keysOf (⟨#[]⟩ : ByteArray).data.toList M = M.map (·.1) from keysOf_nil M] at hg1
  have hln : M.length = n := by have := hg1.row.1; rwa [List.length_map] at this
  have HR := Lib.hid hg1.row
  have Hb1 := Lib.hid hb1
  have hncap : n ≤ cap := hg1.row.2.1
  have hcap2 : cap ≤ 9223372036854775807 := by have := hg1.row.2.2.1; unfold maxLen at this; omega
  have Hs1 := Lib.hid hb1.size
  have hn1 : n ≤ 1048576 := by omega
  clear hg1 hb1 Hkeys
  go_wp2_with fail
  go_loopw [3, 11] (fun r v wr => ∃ (i : Nat) (A3 : Option Addr) (c3 : Nat), i ≤ n ∧ v = .int .i64 (i : Int) ∧ r = .slice A3 i c3 ∧ Hid (Prs w1.heap.size wr A3 i c3 ((M.take i).map fun q => (q.1, q.2.xs))) ∧ Hid (Below w1.heap.size w1 wr)) (fun _ v _ => n - (intOf v).toNat)
  case atStart => exact ⟨0, none, 0, Nat.zero_le _, rfl, rfl, Lib.hid (GotR.nil_ _ _ _ _ _), Lib.hid (Below.refl _ _)⟩
  case round =>
    obtain ⟨i, A3, c3, hi, rfl, rfl, HP, HB⟩ := hrel
    by_cases hlt : i < n
    · obtain ⟨q, hq⟩ : ∃ q, M[i]? = some q := ⟨_, List.getElem?_eq_getElem (by omega)⟩
      obtain ⟨b, o, k, hA, hbl, -, hk, hc⟩ := (HR.out.below HB.out).at_ hlt
      have hkq : k = q.1 := by
        rw [List.getElem?_map, hq] at hk
        exact (Option.some.inj hk).symm
      subst hkq
      have c0 := hc 0 (by omega)
      simp only [strC, Nat.mul_one, Nat.add_zero, List.getElem?_cons_zero] at c0
      have htk := take_snoc M i q hq
      have Htk : Hid ((M.take (i + 1)).map (fun q => (q.1, q.2.xs)) = (M.take i).map (fun q => (q.1, q.2.xs)) ++ [(q.1, q.2.xs)]) := Lib.hid (by rw [htk, List.map_append]; rfl)
      have hat := Hat.out i q hq
      have Hg := Lib.hid (fun W (hW : Below w.heap.size w W) => get_enc s mb p c e M h false q.1 W (HG.out.st.below hW) (by unfold maxLen; omega) (by omega))
      obtain ⟨xs, hxs⟩ : ∃ xs, xs = q.2.xs := ⟨_, rfl⟩
      obtain ⟨kq, hkq⟩ : ∃ kq, kq = q.1 := ⟨_, rfl⟩
      rw [hat.2.2] at Hg
      rw [← hxs, ← hkq] at Hg
      rw [← hxs, ← hkq] at Htk
      rw [← hkq] at c0
      have hHB := HB.out.size
      have HBw := Lib.hid (Hb1.out.trans (HB.out.mono Hb1.out.size))
      subst hA
      clear hc hk hq htk hat hxs hkq
      go_wp2_with fail
      with_reducible refine (Hg.out wr HBw.out).mono ?_
      rintro e2 w2 ⟨⟨A2, c2, rfl, hgot⟩, hb2⟩
      have hcv := conv_bytes hgot.bytes
      have HP2 := Lib.hid (HP.out.below pair_len hb2)
      have HB2 := Lib.hid (HB.out.trans (hb2.mono hHB))
      have hs2 : w1.heap.size ≤ w2.heap.size := HB2.out.size
      have hrow : RowSl pairC 2 (w2.alloc (.cells #[encStr kq, .string (strB xs)] 99)) Empty (some ⟨w2.heap.size, 0, none⟩) 1 1 [(kq, xs)] := pair_lit (kq, xs) w2
      have Hrow := Lib.hid hrow
      have HP3 := Lib.hid (HP2.out.alloc pair_len (.cells #[encStr kq, .string (strB xs)] 99))
      have HB3 := Lib.hid (HB2.out.alloc hs2 (.cells #[encStr kq, .string (strB xs)] 99))
      clear hgot hb2 Hg hrow
      go_wp2_with (at_builtin; refine wpList_append_prs rfl _ _ rfl w1.heap.size A3 i c3 ((M.take i).map fun q => (q.1, q.2.xs)) rfl HP3.out _ 1 1 _ rfl Hrow.out (fun h => by cases h) (by omega) (by simp; omega) ?_; intro A4 c4 w4 hg4 hgr4 hr4)
      have HB4 := Lib.hid (below_gotR HB3.out (by simp; omega) hgr4 hr4 (Nat.le_refl _))
      have HP4 := Lib.hid hg4
      clear hg4 hgr4 hr4
      go_roundw
      case rel => exact ⟨i + 1, A4, c4, by omega, by simp, rfl, by rw [Htk.out]; exact HP4, HB4⟩
      case measure => simp [intOf]; omega
    · have hin : i = n := by omega
      subst hin
      have ht : M.take i = M := List.take_of_length_le (by omega)
      rw [ht, ← Hbl.out] at HP
      go_wp2_with fail
      go_ret
      exact ⟨⟨A3, i, c3, rfl, HP.out.lower Hs1.out⟩, Hb1.out.trans (HB.out.mono Hs1.out)⟩

/-- What pairs count for. -/
def liveB (Y : AB) : Nat := (Y.map fun q => q.1.length + q.2.length + 32).sum
theorem liveB_snoc (Y : AB) (q : Pr) : liveB (Y ++ [q]) = liveB Y + (q.1.length + q.2.length + 32) := by simp [liveB]
set_option maxHeartbeats 4000000 in
/-- Rows that read the same are the same. -/
theorem refSame_yes (A A2 : Option Addr) (n m cap cap2 : Nat) (Y : AB) (w : World) (hR : RowSl pairC 2 w Empty A n cap Y) (hR2 : RowSl pairC 2 w Empty A2 m cap2 Y) (hn : n ≤ 1048576) :
    Calls Tryz.prog 13 #[.slice A n cap, .slice A2 m cap2] w fun e1 w' => e1 = .returned (.bool true) ∧ Below w.heap.size w w' := by
  have hln := hR.1
  have hlm := hR2.1
  have hmn : m = n := by omega
  subst hmn
  have HR := Lib.hid hR
  have HR2 := Lib.hid hR2
  have hncap : m ≤ cap := hR.2.1
  have hncap2 : m ≤ cap2 := hR2.2.1
  have hcap3 : cap ≤ 9223372036854775807 := by have := hR.2.2.1; unfold maxLen at this; omega
  have hcap4 : cap2 ≤ 9223372036854775807 := by have := hR2.2.2.1; unfold maxLen at this; omega
  clear hR hR2
  go_enter Tryz.func13, Tryz.ntmps13
  go_wp2_with fail
  go_loopw [13] (fun v wr => ∃ i : Nat, i ≤ m ∧ v = .int .i64 (i : Int) ∧ Hid (Below w.heap.size w wr)) (fun v _ => m - (intOf v).toNat)
  case atStart => exact ⟨0, Nat.zero_le _, rfl, Lib.hid (Below.refl _ _)⟩
  case round =>
    obtain ⟨i, hi, rfl, HB⟩ := hrel
    by_cases hlt : i < m
    · obtain ⟨b, o, q, hA, hbl, -, hk, hc⟩ := (HR.out.below HB.out).at_ hlt
      obtain ⟨b2, o2, q2, hA2, hbl2, -, hk2, hc2⟩ := (HR2.out.below HB.out).at_ hlt
      have hqq : q2 = q := by rw [hk] at hk2; exact (Option.some.inj hk2).symm
      subst hqq
      have c0 := hc 0 (by omega)
      have c1 := hc 1 (by omega)
      have d0 := hc2 0 (by omega)
      have d1 := hc2 1 (by omega)
      obtain ⟨k, xs⟩ := q2
      simp only [pairC, List.getElem?_cons_zero, List.getElem?_cons_succ, Nat.add_zero, encStr] at c0 c1 d0 d1
      obtain ⟨sk, hsk2⟩ : ∃ sk : ByteArray, sk = ⟨k.toArray⟩ := ⟨_, rfl⟩
      obtain ⟨sx, hsx2⟩ : ∃ sx : ByteArray, sx = ⟨xs.toArray⟩ := ⟨_, rfl⟩
      rw [← hsk2] at c0 d0
      rw [← hsx2] at c1 d1
      have hiI : (i : Int) < (m : Int) := by omega
      subst hA
      subst hA2
      clear hc hk hc2 hk2 hsk2 hsx2
      go_wp2_with fail
      go_quiet (fail)
      have HBq := Lib.hid (HB.out.drewN nq)
      go_wp2_with fail
      go_roundw
      case rel => exact ⟨i + 1, by omega, by simp, HBq⟩
      case measure => simp [intOf]; omega
    · have hin : i = m := by omega
      subst hin
      go_wp2_with fail
      go_ret
      exact ⟨rfl, HB.out⟩

end Go.Proofs.YtnhfmcijadficaaGreatDoor

/- The walks over the document's record, Room, Check (of one change), Most. -/
namespace Go.Proofs.YtnhfmcijadficaaGreatDoor
set_option maxRecDepth 100000
open Go.RowKit Go.Maps

end Go.Proofs.YtnhfmcijadficaaGreatDoor

/- The walk over the document's Apply. -/
namespace Go.Proofs.YtnhfmcijadficaaGreatDoor
set_option maxRecDepth 100000
open Go.RowKit Go.Maps

/-- What is still to be done of one change. -/
def restB (k b : List UInt8) (d : Bool) (Y : AB) : AB := if d then adel Y k else ains (k, b) (adel Y k)
theorem restB_nil (k b : List UInt8) (d : Bool) : restB k b d [] = if d then [] else [(k, b)] := by cases d <;> rfl
theorem restB_same {k b : List UInt8} {d : Bool} {p : Pr} {Y : AB} (hp : p.1 = k) : restB k b d (p :: Y) = restB k b d Y := by
  have h : adel (p :: Y) k = adel Y k := by
    unfold adel
    rw [List.filter_cons_of_neg (by simpa using hp)]
  unfold restB
  rw [h]
theorem restB_skip {k b : List UInt8} {d : Bool} {p : Pr} {Y : AB} (hp : p.1 ≠ k) (hb : d = true ∨ ¬ bytesBefore k p.1 = true) : restB k b d (p :: Y) = p :: restB k b d Y := by
  have h : adel (p :: Y) k = p :: adel Y k := by
    unfold adel
    rw [List.filter_cons_of_pos (by simpa using hp)]
  unfold restB
  rw [h]
  cases d with
  | true => rfl
  | false =>
    rw [if_neg (by decide), if_neg (by decide)]
    rcases hb with hb | hb
    · cases hb
    · rw [ains, if_neg hb]
theorem restB_put {k b : List UInt8} {p : Pr} {Y : AB} (hb : bytesBefore k p.1 = true) : restB k b false (p :: Y) = (k, b) :: p :: restB k b true Y := by
  have hp : p.1 ≠ k := fun h => before_ne hb h.symm
  have h : adel (p :: Y) k = p :: adel Y k := by
    unfold adel
    rw [List.filter_cons_of_pos (by simpa using hp)]
  unfold restB
  rw [if_neg (by decide), if_pos rfl, h, ains, if_pos hb]

theorem less_before : ∀ a b : List UInt8, Op.bytesLess a b = bytesBefore a b
  | [], [] => rfl
  | [], _ :: _ => rfl
  | _ :: _, [] => rfl
  | a :: x, b :: y => by
    unfold Op.bytesLess bytesBefore
    rw [less_before x y]
/-- A pair that is laid, as append takes it. -/
theorem pair_lit2 (s : ByteArray) (xs : List UInt8) (w : World) : RowSl pairC 2 (w.alloc (.cells #[.string s, .string (strB xs)] 99)) Empty (some ⟨w.heap.size, 0, none⟩) 1 1 [(s.data.toList, xs)] := pair_lit (s.data.toList, xs) w

/-- A block that is no row of the call's own stays while such a row grows. -/
theorem keep_grown {W w0 w' : World} {base q no co : Nat} {Ao : Option Addr} {t t2 : TypeId} {cs : Array Value} {k : Nat} (hgr : W.grownBy w' (Value.slice Ao no co).ownBlock) (hr : ∀ g, (Value.slice Ao no co).ownBlock = some g → base ≤ g)
    (here : Ao = none ∨ ∃ g cur, Ao = some ⟨g, 0, none⟩ ∧ base ≤ g ∧ Blk w0 g t2 cur ∧ cur.size = co * k) (hq : q < base ∨ w0.heap.size ≤ q) (hB : Blk W q t cs) : Blk w' q t cs := by
  have hO : Only (fun x => (Value.slice Ao no co).ownBlock = some x) W w' := Only.of_grown hgr (fun x e _ => e)
  refine hO.blk hB (fun h => ?_)
  have h1 := hr q h
  rw [own_block] at h
  rcases here with h2 | ⟨g, cur, h2, h3, h4, _⟩
  · rw [h2] at h; cases h
  · rw [h2] at h
    have h5 : g = q := by simpa using h
    have := h4.lt
    omega

set_option maxHeartbeats 8000000 in
theorem refApply_any (S : Nat → Prop) (A A2 : Option Addr) (n m cap cap2 : Nat) (Y : AB) (l : List Ch) (w : World) (hS : ∀ q, w.heap.size ≤ q → ¬ S q) (hR : RowSl pairC 2 w S A n cap Y) (hA : A = none → n = 0 ∧ cap = 0) (hC : Chs w Empty A2 m cap2 l) (hn : n ≤ 3000) (hm : m ≤ 16) :
    Calls Tryz.prog 14 #[.slice A n cap, .slice A2 m cap2] w fun e1 w' => (∃ A' n' cap', e1 = .returned (.slice A' n' cap') ∧ RowSl pairC 2 w' S A' n' cap' (applyBL Y l) ∧ (A' = none → n' = 0 ∧ cap' = 0)) ∧ Below w.heap.size w w' := by
  have HC := Lib.hid hC
  have HR := Lib.hid hR
  have HA := Lib.hid hA
  have hcap : m ≤ cap2 := hC.2.1
  have hcap2 : cap2 ≤ 9223372036854775807 := by have := hC.2.2.1; unfold maxLen at this; omega
  have hlm := hC.1
  clear hC hR hA
  go_enter Tryz.func14, Tryz.ntmps14
  go_wp2_with fail
  go_loopw [0, 13] (fun a v wr => ∃ (i n1 c1 : Nat) (A1 : Option Addr), i ≤ m ∧ n1 ≤ n + i ∧ a = .slice A1 n1 c1 ∧ v = .int .i64 (i : Int) ∧ Hid (RowSl pairC 2 wr S A1 n1 c1 (applyBL Y (l.take i))) ∧ Hid (A1 = none → n1 = 0 ∧ c1 = 0) ∧ Hid (Below w.heap.size w wr)) (fun _ v _ => m - (intOf v).toNat)
  case atStart => exact ⟨0, n, cap, A, by omega, by omega, rfl, rfl, HR, HA, Lib.hid (Below.refl _ _)⟩
  case round =>
    clear HR HA
    obtain ⟨i, n1, k1, A1, hi, hn1, rfl, rfl, HR, HA, HB⟩ := hrel
    by_cases hlt : i < m
    · obtain ⟨b, o, f, hAe, hb, -, hf, hc⟩ := (HC.out.only (Only.of_below (S := Empty) HB.out) (fun _ _ h => h)).at_ hlt
      have c0 : wr.cell? ⟨b, o + i * 3, none⟩ = some (.bool f.del) := hc 0 (by omega)
      have c1 : wr.cell? ⟨b, o + i * 3 + 1, none⟩ = some (.string f.s) := hc 1 (by omega)
      have c2 : wr.cell? ⟨b, o + i * 3 + 2, none⟩ = some (.slice f.A f.n f.cap) := hc 2 (by omega)
      have htk := take_snoc l i f hf
      have Hap : Hid (applyBL Y (l.take (i + 1)) = applyB (applyBL Y (l.take i)) f) := Lib.hid (by rw [htk]; unfold applyBL; rw [List.foldl_append]; rfl)
      have Hfb : Hid (ByteSl w Empty f.A f.n f.cap f.blob) := Lib.hid (HC.out.2.2.2.2 f (List.mem_of_getElem? hf)).1
      obtain ⟨Y1, hY1⟩ : ∃ Y1, Y1 = applyBL Y (l.take i) := ⟨_, rfl⟩
      rw [← hY1] at HR Hap
      have hln1 := HR.out.1
      have hnc1 := HR.out.2.1
      have hcc1 : k1 ≤ 9223372036854775807 := by have := HR.out.2.2.1; unfold maxLen at this; omega
      have hB6 := Blk.new wr 37 #[.bool f.del, .string f.s, .slice f.A f.n f.cap]
      have HB6 := Lib.hid hB6
      have HBa := Lib.hid (HB.out.alloc HB.out.size (.cells #[.bool f.del, .string f.s, .slice f.A f.n f.cap] 37))
      have HRa := Lib.hid (HR.out.below ((Below.refl wr.heap.size wr).alloc (Nat.le_refl _) (.cells #[.bool f.del, .string f.s, .slice f.A f.n f.cap] 37)))
      have hsw : w.heap.size ≤ wr.heap.size := HB.out.size
      subst hAe
      clear hc hf htk hY1 hB6
      go_wp2_with fail
      obtain ⟨g6, hg6⟩ : ∃ g6, g6 = wr.heap.size := ⟨_, rfl⟩
      obtain ⟨wa, hwa⟩ : ∃ wa, wa = wr.alloc (.cells #[.bool f.del, .string f.s, .slice f.A f.n f.cap] 37) := ⟨_, rfl⟩
      rw [← hwa] at HB6 HBa HRa ⊢
      rw [← hg6] at HB6 ⊢
      have hg6l : g6 < wa.heap.size := HB6.out.lt
      have hwa2 : w.heap.size ≤ wa.heap.size := HBa.out.size
      clear hwa hg6 c0 c1 c2 HB
      go_loopw [7, 8, 21] (fun r d v W => ∃ (j no co : Nat) (Ao : Option Addr) (dd : Bool) (O : AB), j ≤ n1 ∧ no ≤ j + 1 ∧ (dd = false → no ≤ j) ∧ r = .slice Ao no co ∧ d = .bool dd ∧ v = .int .i64 (j : Int) ∧ Hid (Prs wa.heap.size W Ao no co O) ∧ Hid (O ++ restB f.s.data.toList f.blob dd (Y1.drop j) = applyB Y1 f) ∧ Hid (Below wa.heap.size wa W)) (fun _ _ v _ => n1 - (intOf v).toNat)
      case atStart =>
        refine ⟨0, 0, 0, none, f.del, [], by omega, by omega, by omega, rfl, rfl, rfl, Lib.hid (GotR.nil_ _ _ _ _ _), Lib.hid ?_, Lib.hid (Below.refl _ _)⟩
        unfold restB applyB aput
        simp only [List.nil_append, List.drop_zero]
      case round =>
        obtain ⟨j, no, co, Ao, dd, O, hj, hno, hno2, rfl, rfl, rfl, HO, HE, HBo⟩ := hrel
        have hB6 := (Only.of_below (S := Empty) HBo.out).blk HB6.out (fun h => h)
        have c0 := hB6.cell 0
        have c1 := hB6.cell 1
        have c2 := hB6.cell 2
        simp only [List.getElem?_toArray, List.getElem?_cons_zero, List.getElem?_cons_succ] at c0 c1 c2
        have hg6r := hB6.lt
        by_cases hjl : j < n1
        · obtain ⟨b2, o2, q, hA2, hb2, -, hq, hcq⟩ := (HRa.out.below HBo.out).at_ hjl
          obtain ⟨kq, xq⟩ := q
          have d0 : wr.cell? ⟨b2, o2 + j * 2, none⟩ = some (.string ⟨kq.toArray⟩) := hcq 0 (by omega)
          have d1 : wr.cell? ⟨b2, o2 + j * 2 + 1, none⟩ = some (.string ⟨xq.toArray⟩) := hcq 1 (by omega)
          subst hA2
          clear hcq
          have hdr : Y1.drop j = (kq, xq) :: Y1.drop (j + 1) := by
            have h1 := (List.getElem?_eq_some_iff.1 hq)
            rw [List.drop_eq_getElem_cons h1.1, h1.2]
          rw [hdr] at HE
          have e1 := str_list f.s
          have e2 := less_before f.s.toList kq
          obtain ⟨C, hC⟩ : ∃ C, C = Obj.cells #[.string ⟨kq.toArray⟩, .string ⟨xq.toArray⟩] 99 := ⟨_, rfl⟩
          have hsz1 : (wr.alloc C).heap.size = wr.heap.size + 1 := by rw [hC]; simp
          have hsz2 : ((wr.alloc C).alloc C).heap.size = wr.heap.size + 2 := by rw [hC]; simp
          have hswr : wa.heap.size ≤ wr.heap.size := HBo.out.size
          have Hrow : Hid (RowSl pairC 2 ((wr.alloc C).alloc C) Empty (some ⟨wr.heap.size + 1, 0, none⟩) 1 1 [(kq, xq)]) := Lib.hid (by have h := pair_lit (kq, xq) (wr.alloc C); rw [hsz1] at h; rw [hC] at h ⊢; exact h)
          have HO1 := Lib.hid ((HO.out.alloc pair_len C).alloc pair_len C)
          have HB1 := Lib.hid ((HBo.out.alloc hswr C).alloc (by rw [hsz1]; omega) C)
          have HBc := Lib.hid (HBo.out.alloc hswr C)
          have Hex : Hid (∀ k, k = f.s.data.toList → f.s.toList = k) := Lib.hid (fun k hk => by rw [hk]; exact e1)
          cases hkk : (kq == f.s.toList) with
          | true =>
            have hkq : kq = f.s.data.toList := by rw [← e1]; simpa using hkk
            have hle : Op.bytesLess f.s.toList kq = false := by
              rw [e2, e1, ← hkq]
              exact Bool.eq_false_iff.2 (before_irr kq)
            have HE2 := HE.out
            rw [restB_same hkq] at HE2
            have HE3 := Lib.hid HE2
            have hkk2 : (!kq == f.s.toList) = false := by rw [hkk]; rfl
            clear HE HE2 hkq e1 e2 hdr hq hsz1 hsz2 HO1 HB1 Hrow
            have HOc := Lib.hid (HO.out.alloc pair_len C)
            rw [hC] at HOc HBc
            clear hC
            cases dd with
            | true =>
              go_wp2_with fail
              go_roundw
              case rel => exact ⟨j + 1, no, co, Ao, true, O, by omega, by omega, (fun h => by cases h), rfl, rfl, by simp, HOc, HE3, HBc⟩
              case measure => simp [intOf]; omega
            | false =>
              go_wp2_with fail
              go_roundw
              case rel => exact ⟨j + 1, no, co, Ao, false, O, by omega, by omega, (fun _ => by have := hno2 rfl; omega), rfl, rfl, by simp, HOc, HE3, HBc⟩
              case measure => simp [intOf]; omega
          | false =>
            have hkq : (kq, xq).1 ≠ f.s.data.toList := by rw [← e1]; simpa using hkk
            have hkk2 : (!kq == f.s.toList) = true := by rw [hkk]; rfl
            cases hd2 : (!dd && Op.bytesLess f.s.toList kq) with
            | false =>
              have HE2 := HE.out
              rw [restB_skip hkq (by
                cases dd with
                | true => exact Or.inl rfl
                | false =>
                  right
                  have h3 : Op.bytesLess f.s.toList kq = false := by simpa using hd2
                  rw [e2, e1] at h3
                  exact Bool.eq_false_iff.1 h3)] at HE2
              have HE3 : Hid (O ++ [(kq, xq)] ++ restB f.s.data.toList f.blob dd (Y1.drop (j + 1)) = applyB Y1 f) := Lib.hid (by rw [List.append_assoc]; exact HE2)
              clear HE HE2 hkq e1 e2 hdr hq
              rw [hC] at Hrow HO1 HB1 hsz2
              clear hC hsz1 HBc
              cases dd with
              | true =>
                go_wp2_with (at_builtin; refine wpList_append_prs rfl _ _ rfl wa.heap.size Ao no co O rfl HO1.out _ 1 1 _ rfl Hrow.out (fun h => by cases h) (by omega) (by rw [hsz2]; omega) ?_; intro A4 c4 w4 hg4 hgr4 hr4)
                have HB4 := Lib.hid (below_gotR HB1.out (by rw [hsz2]; omega) hgr4 hr4 (Nat.le_refl _))
                have HO4 := Lib.hid hg4
                clear hg4 hgr4 hr4
                go_roundw
                case rel => exact ⟨j + 1, no + 1, c4, A4, true, O ++ [(kq, xq)], by omega, by omega, (fun h => by cases h), rfl, rfl, by simp, HO4, HE3, HB4⟩
                case measure => simp [intOf]; omega
              | false =>
                have hle : Op.bytesLess f.s.toList kq = false := by simpa using hd2
                go_wp2_with (at_builtin; refine wpList_append_prs rfl _ _ rfl wa.heap.size Ao no co O rfl HO1.out _ 1 1 _ rfl Hrow.out (fun h => by cases h) (by omega) (by rw [hsz2]; omega) ?_; intro A4 c4 w4 hg4 hgr4 hr4)
                have HB4 := Lib.hid (below_gotR HB1.out (by rw [hsz2]; omega) hgr4 hr4 (Nat.le_refl _))
                have HO4 := Lib.hid hg4
                clear hg4 hgr4 hr4
                go_roundw
                case rel => exact ⟨j + 1, no + 1, c4, A4, false, O ++ [(kq, xq)], by omega, by omega, (fun _ => by have := hno2 rfl; omega), rfl, rfl, by simp, HO4, HE3, HB4⟩
                case measure => simp [intOf]; omega
            | true =>
              have hdd : dd = false ∧ Op.bytesLess f.s.toList kq = true := by
                cases dd with
                | true => cases hd2
                | false => exact ⟨rfl, by simpa using hd2⟩
              obtain ⟨rfl, hle⟩ := hdd
              have hno3 := hno2 rfl
              have HE2 := HE.out
              rw [restB_put (by rw [← e1, ← e2]; exact hle)] at HE2
              have HE3 : Hid (O ++ [(f.s.data.toList, f.blob)] ++ [(kq, xq)] ++ restB f.s.data.toList f.blob true (Y1.drop (j + 1)) = applyB Y1 f) := Lib.hid (by rw [List.append_assoc, List.append_assoc]; exact HE2)
              have hcv := conv_bytes ((Hfb.out.only (Only.of_below (S := Empty) HBa.out) (fun _ _ h => h)).only (Only.of_below (S := Empty) (HBo.out.alloc hswr C)) (fun _ _ h => h))
              obtain ⟨C2, hC2⟩ : ∃ C2, C2 = Obj.cells #[.string f.s, .string (strB f.blob)] 99 := ⟨_, rfl⟩
              have hsz3 : ((wr.alloc C).alloc C2).heap.size = wr.heap.size + 2 := by rw [hC, hC2]; simp
              have Hrow2 : Hid (RowSl pairC 2 ((wr.alloc C).alloc C2) Empty (some ⟨wr.heap.size + 1, 0, none⟩) 1 1 [(f.s.data.toList, f.blob)]) := Lib.hid (by have h := pair_lit2 f.s f.blob (wr.alloc C); rw [hsz1] at h; rw [hC2]; exact h)
              have HO2 := Lib.hid ((HO.out.alloc pair_len C).alloc pair_len C2)
              have HB2 := Lib.hid ((HBo.out.alloc hswr C).alloc (by rw [hsz1]; omega) C2)
              have hP0 : Blk (wr.alloc C) wr.heap.size 99 #[.string ⟨kq.toArray⟩, .string ⟨xq.toArray⟩] := by rw [hC]; exact Blk.new wr 99 _
              have hB6c : Blk ((wr.alloc C).alloc C2) g6 37 #[.bool f.del, .string f.s, .slice f.A f.n f.cap] := (hB6.alloc C).alloc C2
              have hPc : Blk ((wr.alloc C).alloc C2) wr.heap.size 99 #[.string ⟨kq.toArray⟩, .string ⟨xq.toArray⟩] := hP0.alloc C2
              have HPc := Lib.hid hPc
              have HB6c := Lib.hid hB6c
              have Hhere := Lib.hid HO.out.here
              clear HE HE2 hkq e1 e2 hdr hq HO1 HB1 Hrow hsz2 hP0 hB6c hPc hB6
              rw [hC] at hcv
              rw [hC, hC2] at HO2 HB2 Hrow2 HPc HB6c hsz3
              clear hC2 HBc hsz1
              subst hC
              go_wp2_with (first | (at_builtin; refine wpList_append_prs rfl _ _ rfl wa.heap.size Ao no co O rfl HO2.out _ 1 1 _ rfl Hrow2.out (fun h => by cases h) (by omega) (by rw [hsz3]; omega) ?_; intro A4 c4 w4 hg4 hgr4 hr4; have HB4 := Lib.hid (below_gotR HB2.out (by rw [hsz3]; omega) hgr4 hr4 (Nat.le_refl _)); have hs4 := HB4.out.size; have hg6b := keep_grown hgr4 hr4 Hhere.out (Or.inl hg6l) HB6c.out; have hP4 := keep_grown hgr4 hr4 Hhere.out (Or.inr (Nat.le_refl _)) HPc.out; have HO4 := Lib.hid hg4; have k0 : w4.cell? ⟨g6, 0, none⟩ = some (.bool f.del) := hg6b.cell 0; have k1 : w4.cell? ⟨g6, 1, none⟩ = some (.string f.s) := hg6b.cell 1; have p0 : w4.cell? ⟨wr.heap.size, 0, none⟩ = some (.string ⟨kq.toArray⟩) := hP4.cell 0; have p1 : w4.cell? ⟨wr.heap.size, 1, none⟩ = some (.string ⟨xq.toArray⟩) := hP4.cell 1; have g6l4 := hg6b.lt; have pl4 := hP4.lt; clear hg4 hgr4 hr4 hg6b hP4) | (at_builtin; refine wpList_append_prs rfl _ _ rfl wa.heap.size A4 (no + 1) c4 (O ++ [(f.s.data.toList, f.blob)]) rfl (HO4.out.alloc pair_len _) _ 1 1 [(kq, xq)] rfl (pair_lit (kq, xq) w4) (fun h => by cases h) (by omega) (by simp; omega) ?_; intro A5 c5 w5 hg5 hgr5 hr5))
              have HB5 := Lib.hid (below_gotR (HB4.out.alloc hs4 _) (by simp; omega) hgr5 hr5 (Nat.le_refl _))
              have HO5 := Lib.hid hg5
              clear hg5 hgr5 hr5
              go_roundw
              case rel => exact ⟨j + 1, no + 2, c5, A5, true, _, by omega, by omega, (fun h => by cases h), rfl, rfl, by simp, HO5, HE3, HB5⟩
              case measure => simp [intOf]; omega
        · have hjn : j = n1 := by omega
          have hdr : Y1.drop j = [] := List.drop_of_length_le (by omega)
          rw [hdr, restB_nil] at HE
          clear hdr
          cases dd with
          | true =>
            have HE2 : Hid (O = applyB Y1 f) := Lib.hid (by have := HE.out; rw [if_pos rfl, List.append_nil] at this; exact this)
            have HR2 : Hid (RowSl pairC 2 wr S Ao no co (applyBL Y (l.take (i + 1)))) := Lib.hid (by rw [Hap.out, ← HE2.out]; exact HO.out.out (fun q h1 _ => hS q (by omega)))
            have HA2 : Hid (Ao = none → no = 0 ∧ co = 0) := Lib.hid HO.out.isNil
            have HB2 := Lib.hid (HBa.out.trans (HBo.out.mono hwa2))
            go_wp2_with fail
            go_roundw
            case rel => exact ⟨i + 1, no, co, Ao, by omega, by omega, rfl, by simp, HR2, HA2, HB2⟩
            case measure => simp [intOf]; omega
          | false =>
            have hno3 := hno2 rfl
            have HE2 : Hid (O ++ [(f.s.data.toList, f.blob)] = applyB Y1 f) := Lib.hid (by have := HE.out; rw [if_neg (by decide)] at this; exact this)
            have hcv := conv_bytes ((Hfb.out.only (Only.of_below (S := Empty) HBa.out) (fun _ _ h => h)).only (Only.of_below (S := Empty) HBo.out) (fun _ _ h => h))
            have Hrow2 := Lib.hid (pair_lit2 f.s f.blob wr)
            have hswr : wa.heap.size ≤ wr.heap.size := HBo.out.size
            have HO2 := Lib.hid (HO.out.alloc pair_len (.cells #[.string f.s, .string (strB f.blob)] 99))
            have HB2 := Lib.hid (HBo.out.alloc hswr (.cells #[.string f.s, .string (strB f.blob)] 99))
            clear HE
            go_wp2_with (at_builtin; refine wpList_append_prs rfl _ _ rfl wa.heap.size Ao no co O rfl HO2.out _ 1 1 _ rfl Hrow2.out (fun h => by cases h) (by omega) (by simp; omega) ?_; intro A4 c4 w4 hg4 hgr4 hr4)
            have HB4 := Lib.hid (below_gotR HB2.out (by simp; omega) hgr4 hr4 (Nat.le_refl _))
            have HR4 : Hid (RowSl pairC 2 w4 S A4 (no + 1) c4 (applyBL Y (l.take (i + 1)))) := Lib.hid (by rw [Hap.out, ← HE2.out]; exact hg4.out (fun q h1 _ => hS q (by omega)))
            have HA4 : Hid (A4 = none → no + 1 = 0 ∧ c4 = 0) := Lib.hid hg4.isNil
            have HB5 := Lib.hid (HBa.out.trans (HB4.out.mono hwa2))
            clear hg4 hgr4 hr4
            go_roundw
            case rel => exact ⟨i + 1, no + 1, c4, A4, by omega, by omega, rfl, by simp, HR4, HA4, HB5⟩
            case measure => simp [intOf]; omega
    · have hin : i = m := by omega
      subst hin
      have ht : l.take i = l := List.take_of_length_le (by omega)
      rw [ht] at HR
      go_wp2_with fail
      go_ret
      exact ⟨⟨A1, n1, k1, rfl, HR.out, HA.out⟩, HB.out⟩

end Go.Proofs.YtnhfmcijadficaaGreatDoor
