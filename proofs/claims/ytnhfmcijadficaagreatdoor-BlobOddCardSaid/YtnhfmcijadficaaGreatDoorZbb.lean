/- The walk over a plan's fitting. -/
import Derived.Test.YtnhfmcijadficaaGreatDoorZaz
import Derived.Test.YtnhfmcijadficaaGreatDoorZax
import Derived.Test.YtnhfmcijadficaaGreatDoorZba
namespace Go.Proofs.YtnhfmcijadficaaGreatDoor
set_option maxRecDepth 100000
open Go.RowKit Go.Maps

/-- The put of a key's blob. -/
def keyCh (M : Al Sv) (k : List UInt8) : Ch := ⟨false, ⟨k.toArray⟩, adr (svAt M k).g, (svAt M k).n, (svAt M k).cap, (svAt M k).xs⟩
/-- The first keys for whose puts a head has room. -/
def fitL (M : Al Sv) (h : HeadV) : Nat → List (List UInt8) → List (List UInt8)
  | _, [] => []
  | room, k :: ks => if takesB h ((room + (keyCh M k).sz : Nat) : Int) then k :: fitL M h (room + (keyCh M k).sz) ks else []
def fit (M : Al Sv) (h : HeadV) (ks : List (List UInt8)) : List (List UInt8) := fitL M h 16 (ks.take 16)

theorem chg_len (f : Ch) : f.cells.length = 3 := rfl
theorem chg_one (f : Ch) : ∀ v ∈ f.cells, v.oneCell' = true := by
  intro v hv
  simp only [Ch.cells, List.mem_cons, List.not_mem_nil, or_false] at hv
  rcases hv with rfl | rfl | rfl <;> rfl
theorem Tryz.infoChange : (Tryz.prog.info? 37).map (fun i => (i.zero, i.size, i.bytes)) = some (some (.agg #[.bool false, .string ⟨#[]⟩, .slice none 0 0]), 3, 48) := by kernel_rfl

theorem wpList_append_chg {ops : Array Oper} {rest : List Oper} {q : Oper} {u : Act} {w : World} {S : Nat → Prop} {Q : Exit → Act → World → Prop} (hgd : q.guard = none) (s x : Operand) (hq : q.op = .call { callee := .builtin .append, args := #[s, x], argTypes := #[38, 38] })
    (base : Nat) (B : Option Addr) (m0 c0 : Nat) (zs : List Ch) (hs : u.eval s = .slice B m0 c0) (hown : GotR Ch.cells 3 37 base w B m0 c0 zs) (A : Option Addr) (m c : Nat) (l : List Ch)
    (hx : u.eval x = .slice A m c) (hB : RowSl Ch.cells 3 w S A m c l) (hn : A = none → m = 0 ∧ c = 0) (hm : m0 + m ≤ 16777216) (hbase : base ≤ w.heap.size)
    (h : ∀ A' c' w', GotR Ch.cells 3 37 base w' A' (m0 + m) c' (zs ++ l) → w.grownBy w' (Value.slice B m0 c0).ownBlock → (∀ g, (Value.slice B m0 c0).ownBlock = some g → base ≤ g) → wpList Tryz.prog ops Q rest (u.put q.dst (.slice A' (m0 + m) c')) w') : wpList Tryz.prog ops Q (q :: rest) u w :=
  wpList_append_rows chg_len chg_one (by decide) 38 37 _ 48 Tryz.underlying38 Tryz.infoChange (by simp [Value.cells]) (by decide) hgd s x hq base B m0 c0 zs hs hown A m c l hx hB hn hm hbase (fun A' c' w' h1 h2 h3 _ => h A' c' w' h1 h2 h3)

theorem fit_sz {M : Al Sv} (hF : FairM M) (k : List UInt8) (hk : k.length ≤ 64) : (keyCh M k).sz ≤ 4176 ∧ (keyCh M k).s.size ≤ 64 ∧ (keyCh M k).rN ≤ 4096 := by
  have h1 := svAt_fair hF k
  have h2 : (keyCh M k).s.size = k.length := by simp [keyCh, ByteArray.size]
  have h3 : (keyCh M k).rN = (svAt M k).n := rfl
  unfold Ch.sz
  rw [h2, h3]
  omega

set_option maxHeartbeats 2000000 in
theorem fitting_any (g base p mb Z : Nat) (vk : Value) (R : PP) (P : PV) (nM : Nat) (M : Al Sv) (A : Option Addr) (n cap : Nat) (ks : List (List UInt8)) (w : World) (hP : PlanAt w g base p mb Z vk R P) (hM : StM w mb nM M) (hF : FairM M) (hK : RowSl strC 1 w Empty A n cap ks) (hA : A = none → n = 0 ∧ cap = 0) (hk : ∀ k ∈ ks, k.length ≤ 64) :
    Calls Tryz.prog 191 #[.pointer (some ⟨g, 0, none⟩), .slice A n cap] w fun e1 w' => (∃ A' cap', e1 = .returned (.slice A' (fit M P.h ks).length cap') ∧ GotR Ch.cells 3 37 w.heap.size w' A' (fit M P.h ks).length cap' ((fit M P.h ks).map (keyCh M))) ∧ Below w.heap.size w w' := by
  have HP := Lib.hid hP
  have HM := Lib.hid hM
  have HF := Lib.hid hF
  have HK := Lib.hid hK
  have HA := Lib.hid hA
  have Hk := Lib.hid hk
  have hcap : n ≤ cap := hK.2.1
  have hcap2 : cap ≤ 9223372036854775807 := by have := hK.2.2.1; unfold maxLen at this; omega
  have hlen := hK.1
  obtain ⟨m, hm⟩ : ∃ m, m = min n 16 := ⟨_, rfl⟩
  have hmn : m ≤ n ∧ m ≤ 16 := by omega
  have e1 : min (n : Int) 16 = (m : Int) := by omega
  have e2 : max (m : Int) 0 = (m : Int) := by omega
  obtain ⟨h, hh⟩ : ∃ h, h = P.h := ⟨_, rfl⟩
  rw [← hh]
  have Hfit : Hid (fit M h ks = fitL M h 16 (ks.take m)) := Lib.hid (by
    unfold fit
    by_cases hn : n ≤ 16
    · rw [List.take_of_length_le (by omega), List.take_of_length_le (by omega)]
    · rw [show m = 16 by omega])
  have Hh := Lib.hid hh
  clear hP hM hF hK hk hA hlen hm hh
  go_enter Tryz.func191, Tryz.ntmps191
  go_wp2_with fail
  refine (roomOf_any none 0 0 [] w (Chs.nil_ _ _ _ _ (by unfold maxLen; omega)) (fun _ h => by cases h) (by omega)).mono ?_
  rintro e1 w1 ⟨rfl, hb1⟩
  have Hb1 := Lib.hid hb1
  clear hb1
  go_wp2_with fail
  go_loopw [5, 6, 17] (fun a r v wr => ∃ (i : Nat) (A' : Option Addr) (c' : Nat), i ≤ m ∧ v = .int .i64 (i : Int) ∧ a = .slice A' i c' ∧ r = .int .i64 (roomL ((ks.take i).map (keyCh M)) : Int) ∧ Hid (GotR Ch.cells 3 37 w.heap.size wr A' i c' ((ks.take i).map (keyCh M))) ∧
    Hid (fit M h ks = ks.take i ++ fitL M h (roomL ((ks.take i).map (keyCh M))) ((ks.take m).drop i)) ∧ Hid (Below w.heap.size w wr)) (fun _ _ v _ => m - (intOf v).toNat)
  case atStart => exact ⟨0, none, 0, Nat.zero_le _, rfl, rfl, by simp, Lib.hid (GotR.nil_ _ _ _ _ _), Lib.hid (by rw [Hfit.out]; simp [roomL]), Hb1⟩
  case round =>
    obtain ⟨i, A', c', hi, rfl, rfl, rfl, HG, HE, HB⟩ := hrel
    by_cases hlt : i < m
    · obtain ⟨b, o, x, rfl, hb, -, hx, hc⟩ := (HK.out.below HB.out).at_ (i := i) (by omega)
      have d0 := hc 0 (by omega)
      simp only [strC, List.getElem?_cons_zero, Nat.mul_one, Nat.add_zero] at d0
      have hx64 := Hk.out x (List.mem_of_getElem? hx)
      have htk := take_snoc ks i x hx
      have hdr : (ks.take m).drop i = x :: (ks.take m).drop (i + 1) := by
        rw [List.drop_eq_getElem_cons (by rw [List.length_take]; have := HK.out.1; omega)]
        congr 1
        rw [List.getElem_take]
        obtain ⟨h1, h2⟩ := List.getElem?_eq_some_iff.1 hx
        exact h2
      have hsum := roomL_snoc ((ks.take i).map (keyCh M)) (keyCh M x)
      rw [show (ks.take i).map (keyCh M) ++ [keyCh M x] = (ks.take (i + 1)).map (keyCh M) by rw [htk, List.map_append]; rfl] at hsum
      have hsz := fit_sz HF.out x hx64
      have hle := roomL_le ((ks.take i).map (keyCh M)) (fun f hf => by
        obtain ⟨y, hy, rfl⟩ := List.mem_map.1 hf
        exact (fit_sz HF.out y (Hk.out y (List.mem_of_mem_take hy))).2)
      rw [List.length_map, List.length_take] at hle
      have hlook := (HM.out.only (Only.of_below (S := Empty) HB.out) (fun h => h)).look_enc x (by unfold maxLen; omega)
      have Hrec : Hid (∀ W, Calls Tryz.prog 90 #[(keyCh M x).v, .int .u32 0] W fun e w' => e = .returned (recV (keyCh M x) 0) ∧ Below W.heap.size W w') := Lib.hid (fun W => chRec_any (keyCh M x) 0 W)
      have hszd : (keyCh M x).sz = (⟨x.toArray⟩ : ByteArray).size + (svAt M x).n + 16 := rfl
      have hs1 : (⟨x.toArray⟩ : ByteArray).size = x.length := by simp [ByteArray.size]
      have hfn : (svAt M x).n ≤ 4096 := svAt_fair HF.out x
      have hrow := RowSl.lit chg_len
      obtain ⟨SZ, hSZ⟩ : ∃ SZ, SZ = (keyCh M x).sz := ⟨_, rfl⟩
      rw [← hSZ] at hsum hsz hszd
      unfold keyCh Ch.v recV Ch.rk Ch.rA Ch.rN Ch.rC at Hrec
      obtain ⟨f, hf⟩ : ∃ f, f = svAt M x := ⟨_, rfl⟩
      have Hf := Lib.hid hf
      rw [← hf] at hlook Hrec hszd hfn
      obtain ⟨fsec, fg, fn, fc, fx⟩ := f
      unfold Sv.v at hlook
      simp only at hlook Hrec hszd hfn
      have hfld := stand_field1 fsec (adr fg) fn fc
      have hPB := HP.out.below HB.out
      have c1 : wr.cell? ⟨g, 1, none⟩ = some (.map (some mb)) := hPB.blk.cell 1
      have hgl := hPB.blk.lt
      obtain ⟨RM, hRM⟩ : ∃ RM, RM = roomL ((ks.take i).map (keyCh M)) := ⟨_, rfl⟩
      rw [← hRM] at HE hsum hle
      have HRM := Lib.hid hRM
      have Hsz := Lib.hid hSZ
      have Hszd := Lib.hid hszd
      have Hsum := Lib.hid hsum
      have Htk := Lib.hid htk
      have Hdr := Lib.hid hdr
      have hSZb : SZ ≤ 4176 := hsz.1
      have hRMb : RM ≤ 100000 := by omega
      rw [← hRM]
      clear hc hx htk hdr hsum hle hszd hf hPB hRM hSZ hsz hrow
      go_wp2_with fail
      have hal := (Below.refl wr.heap.size wr).alloc (Nat.le_refl _) (.cells #[.bool false, .string ⟨x.toArray⟩, .slice (adr fg) fn fc] 37)
      have hbx := Blk.new wr 37 #[.bool false, .string ⟨x.toArray⟩, .slice (adr fg) fn fc]
      refine (Hrec.out _).mono ?_
      rintro e2 w2 ⟨rfl, hb2⟩
      have hbx2 := hbx.of (hb2.block _ hbx.lt)
      have HB2 := Lib.hid (HB.out.trans ((hal.trans (hb2.mono hal.size)).mono HB.out.size))
      have HBr := Lib.hid (hal.trans (hb2.mono hal.size))
      have Hbx2 := Lib.hid hbx2
      clear hal hbx hb2 hbx2
      simp only [Bool.false_eq_true, if_false]
      have Hsize := Lib.hid (rcSize_any 1 0 0 ⟨x.toArray⟩ (adr fg) fn fc w2 (by omega) (by omega))
      rw [← Hszd.out] at Hsize
      go_wp2_with fail
      refine Hsize.out.mono ?_
      rintro e3 w3 ⟨rfl, hb3⟩
      have HB3 := Lib.hid (HB2.out.trans (hb3.mono HB2.out.size))
      have HBr3 := Lib.hid (HBr.out.trans (hb3.mono HBr.out.size))
      have HP3 := Lib.hid (HP.out.below HB3.out)
      have Hbx3 := Lib.hid (Hbx2.out.of (hb3.block _ Hbx2.out.lt))
      have q4 : w3.cell? ⟨g, 4, none⟩ = some (.int .i64 h.sec) := by rw [Hh.out]; exact HP3.out.blk.cell 4
      have q5 : w3.cell? ⟨g, 5, none⟩ = some (.int .i64 h.next) := by rw [Hh.out]; exact HP3.out.blk.cell 5
      have q6 : w3.cell? ⟨g, 6, none⟩ = some (.int .i64 h.left) := by rw [Hh.out]; exact HP3.out.blk.cell 6
      have q7 : w3.cell? ⟨g, 7, none⟩ = some (.int .u32 h.txn) := by rw [Hh.out]; exact HP3.out.blk.cell 7
      have hgl3 := HP3.out.blk.lt
      have Htk2 := Lib.hid (takes_any h ((RM : Int) + (SZ : Int)) w3)
      unfold HeadV.v at Htk2
      have Hfl : Hid (fitL M h RM ((ks.take m).drop i) = if takesB h ((RM : Int) + (SZ : Int)) then x :: fitL M h (RM + SZ) ((ks.take m).drop (i + 1)) else []) := Lib.hid (by
        rw [Hdr.out]
        show (if takesB h ((RM + (keyCh M x).sz : Nat) : Int) then x :: fitL M h (RM + (keyCh M x).sz) ((ks.take m).drop (i + 1)) else []) = _
        rw [← Hsz.out]
        congr 1)
      clear hb3 c1 d0
      go_wp2_with fail
      refine Htk2.out.mono ?_
      rintro e4 w4 ⟨rfl, hb4⟩
      have HB4 := Lib.hid (HB3.out.trans (hb4.mono HB3.out.size))
      have HBr4 := Lib.hid (HBr3.out.trans (hb4.mono HBr3.out.size))
      have hb4x := Hbx3.out.of (hb4.block _ Hbx3.out.lt)
      have k0 := hb4x.cell 0
      have k1 := hb4x.cell 1
      have k2 := hb4x.cell 2
      simp at k0 k1 k2
      have hgxl := hb4x.lt
      clear hb4 hb4x q4 q5 q6 q7 hgl3
      cases htb : takesB h ((RM : Int) + (SZ : Int))
      · have Hfl2 : Hid (fitL M h RM ((ks.take m).drop i) = []) := Lib.hid (by rw [Hfl.out, htb]; rfl)
        go_wp2_with fail
        go_ret
        have hfi : fit M h ks = ks.take i := by rw [HE.out, Hfl2.out, List.append_nil]
        have hl : (ks.take i).length = i := by rw [List.length_take]; have := HK.out.1; omega
        refine ⟨⟨A', c', ?_, ?_⟩, HB4.out⟩
        · rw [hfi, hl]
          first | done | rfl
        · rw [hfi, hl]
          exact HG.out.below chg_len HBr4.out
      · have Hfl2 : Hid (fitL M h RM ((ks.take m).drop i) = x :: fitL M h (RM + SZ) ((ks.take m).drop (i + 1))) := Lib.hid (by rw [Hfl.out, htb]; rfl)
        have Hg4 := Lib.hid (HG.out.below chg_len HBr4.out)
        have hal4 := (Below.refl w4.heap.size w4).alloc (Nat.le_refl _) (.cells #[.bool false, .string ⟨x.toArray⟩, .slice (adr fg) fn fc] 37)
        have Hg5 := Lib.hid (Hg4.out.below chg_len hal4)
        have HB5 := Lib.hid (HB4.out.trans (hal4.mono HB4.out.size))
        have Hrow5 := Lib.hid (RowSl.lit chg_len w4 Empty 37 [keyCh M x] 1 [.bool false, .string ⟨x.toArray⟩, .slice (adr fg) fn fc] (by
          simp only [List.flatMap_cons, List.flatMap_nil, List.append_nil, Ch.cells, keyCh]
          rw [← Hf.out]) rfl (by decide) (fun h => h))
        clear hal4 Hfl
        go_wp2_with (at_builtin; refine wpList_append_chg rfl _ _ rfl w.heap.size A' i c' _ rfl Hg5.out _ 1 1 [keyCh M x] rfl Hrow5.out (fun h => by cases h) (by omega) HB5.out.size ?_; intro A6 c6 w6 hg6 hgr6 hro6)
        have HG6 := Lib.hid hg6
        have HB6 := Lib.hid (below_gotR HB5.out HB5.out.size hgr6 hro6 (Nat.le_refl _))
        clear hg6 hgr6 hro6
        go_roundw
        case rel =>
          refine ⟨i + 1, A6, c6, by omega, by simp, rfl, by rw [Hsum.out]; simp, ?_, ?_, HB6⟩
          · refine Lib.hid ?_
            rw [Htk.out, List.map_append]
            exact HG6.out
          · refine Lib.hid ?_
            rw [HE.out, Hfl2.out, Hsum.out, Htk.out]
            simp
        case measure => simp [intOf]; omega
    · have hin : i = m := by omega
      subst hin
      go_wp2_with fail
      go_ret
      have hdr : (ks.take i).drop i = [] := List.drop_eq_nil_iff.2 (by rw [List.length_take]; omega)
      rw [hdr] at HE
      have hfi : fit M h ks = ks.take i := by rw [HE.out]; simp [fitL]
      have hl : (ks.take i).length = i := by rw [List.length_take]; have := HK.out.1; omega
      refine ⟨⟨A', c', ?_, ?_⟩, HB.out⟩
      · rw [hfi, hl]
        first | done | rfl
      · rw [hfi, hl]
        exact HG.out

end Go.Proofs.YtnhfmcijadficaaGreatDoor

/- All that a plan stands on, in one: its rows, its keys, the store's map, the flash, the lists of its steps. -/
namespace Go.Proofs.YtnhfmcijadficaaGreatDoor
set_option maxRecDepth 100000
open Go.RowKit Go.Maps

/-- The types of the blocks that making room turns. -/
def EPK (t : TypeId) : Prop := EP t ∨ t = 67 ∨ t = 9
structure PQ (g base : Nat) (w w' : World) : Prop where
  only : Only (PlanT g base) w w'
  keep : Keep EPK w w'
theorem PQ.trans {g base : Nat} {a b c : World} (h : PQ g base a b) (k : PQ g base b c) : PQ g base a c := ⟨h.only.trans k.only, h.keep.trans k.keep⟩
theorem PO.pq {g base : Nat} {a b : World} (h : PO g base a b) : PQ g base a b := ⟨h.only, h.keep.mono (fun _ h => Or.inl h)⟩
theorem PQ.of_below {g base : Nat} {a b : World} (h : Below a.heap.size a b) : PQ g base a b := (PO.of_below h).pq
theorem PQ.refl (g base : Nat) (a : World) : PQ g base a a := (PO.refl _ _ _).pq
theorem PQ.size {g base : Nat} {a b : World} (h : PQ g base a b) : a.heap.size ≤ b.heap.size := h.only.size

theorem GotR.keep {α : Type} {cells : α → List Value} {k n cap base : Nat} {t : TypeId} {w w' : World} {A : Option Addr} {l : List α} {E : TypeId → Prop} (hk : ∀ f, (cells f).length = k) (h : GotR cells k t base w A n cap l) (hK : Keep E w w') (hE : ¬ E t) : GotR cells k t base w' A n cap l := by
  have hown : w'.ownsRow base t k (.slice A n cap) n (l.flatMap cells) := by
    refine ⟨h.own.1, ?_⟩
    rcases h.own.2 with h0 | ⟨g, cap', cur', e, hg, hb, h1, h2, h3, h4⟩
    · exact Or.inl h0
    · have hb2 : Blk w g t cur' := hb
      exact Or.inr ⟨g, cap', cur', e, hg, hK g t cur' hb2 hE, h1, h2, h3, h4⟩
  obtain ⟨A', c', he, hG⟩ := GotR.of_own hk hown h.row.1
  cases he
  exact hG

theorem KeysAt.keep {w w' : World} {base bi cap : Nat} {A : Option Addr} {K : List Kr} {E : TypeId → Prop} (h : KeysAt w base bi A cap K) (hK : Keep E w w') (h1 : ¬ E 67) (h2 : ¬ E 9) : KeysAt w' base bi A cap K :=
  ⟨h.le, h.outer.keep kr_len hK h1, fun i k hk => (h.inner i k hk).keep strC_len hK h2, h.apart⟩

/-- What lies beside a step that a plan has made. -/
def StAt (w : World) (base : Nat) (M : Al Sv) : Stp → Prop
  | .lay _ _ _ A n cap l => GotR Ch.cells 3 37 base w A n cap l ∧ ∃ F : List (List UInt8), l = F.map (keyCh M)
  | _ => True
theorem ep_change : ¬ EPK 37 := by unfold EPK EP; decide
theorem StAt.pq {w w' : World} {g base : Nat} {M : Al Sv} {s : Stp} (h : StAt w base M s) (k : PQ g base w w') : StAt w' base M s := by
  cases s with
  | lay k0 o t A n cap l => exact ⟨h.1.keep chg_len k.keep ep_change, h.2⟩
  | _ => trivial

structure PW (w : World) (g base bi p c e mb Z L : Nat) (ss : List (Nat × List UInt8)) (nM : Nat) (M : Al Sv) (KA : Option Addr) (kn kcap : Nat) (R : PP) (P : PV) (K : List Kr) : Prop where
  plan : PlanAt w g base p mb Z (.slice KA kn kcap) R P
  keys : KeysAt w base bi KA kcap K
  kn : K.length = kn
  map : StM w mb nM M
  bl : BlobsAt w (PlanT g base) M
  fs : FS w p c e Z L ss
  sts : ∀ s ∈ P.sts, StAt w base M s

/-- What stays while room is made. -/
structure PC (g base p c e mb Z L : Nat) (ss : List (Nat × List UInt8)) (M : Al Sv) : Prop where
  three : ∀ q, Three p c e q → q < base ∧ q ≠ g
  mb : mb < base ∧ mb ≠ g
  fair : FairM M

section
variable {w w' : World} {g base bi p c e mb Z L nM kn kcap : Nat} {ss : List (Nat × List UInt8)} {M : Al Sv} {KA : Option Addr} {R R' : PP} {P P' : PV} {K : List Kr}
theorem PW.pq_ (h : PW w g base bi p c e mb Z L ss nM M KA kn kcap R P K) (C : PC g base p c e mb Z L ss M) (k : PQ g base w w') {K' : List Kr} (hP : PlanAt w' g base p mb Z (.slice KA kn kcap) R' P') (hK : KeysAt w' base bi KA kcap K') (hl : K'.length = kn) (hs : ∀ s ∈ P'.sts, s ∈ P.sts ∨ StAt w' base M s) : PW w' g base bi p c e mb Z L ss nM M KA kn kcap R' P' K' := by
  have hm : ¬ PlanT g base mb := fun h2 => by
    have := C.mb
    rcases h2 with h2 | h2 <;> omega
  refine ⟨hP, hK, hl, h.map.only k.only hm, h.bl.only k.only (fun _ _ h => h), ?_, fun s hs2 => ?_⟩
  · have hn : ∀ q, Three p c e q → ¬ PlanT g base q := fun q h1 h2 => by
      have := C.three q h1
      rcases h2 with h2 | h2 <;> omega
    exact h.fs.of k.only (hn p (Or.inl rfl)) (hn c (Or.inr (Or.inl rfl))) (hn e (Or.inr (Or.inr rfl)))
  · rcases hs s hs2 with h1 | h1
    · exact (h.sts s h1).pq k
    · exact h1
theorem PW.po (h : PW w g base bi p c e mb Z L ss nM M KA kn kcap R P K) (C : PC g base p c e mb Z L ss M) (k : PO g base w w') (hP : PlanAt w' g base p mb Z (.slice KA kn kcap) R' P') (hs : ∀ s ∈ P'.sts, s ∈ P.sts ∨ StAt w' base M s) : PW w' g base bi p c e mb Z L ss nM M KA kn kcap R' P' K :=
  h.pq_ C k.pq hP (h.keys.keep k.keep (by unfold EP; decide) (by unfold EP; decide)) h.kn hs
theorem PW.below (h : PW w g base bi p c e mb Z L ss nM M KA kn kcap R P K) (C : PC g base p c e mb Z L ss M) (k : Below w.heap.size w w') : PW w' g base bi p c e mb Z L ss nM M KA kn kcap R P K :=
  h.po C (PO.of_below k) (h.plan.below k) (fun s hs => Or.inl hs)
end

/-- A row of keys that was taken out of the plan's. -/
structure KRow (w : World) (K : List Kr) (A : Option Addr) (n cap : Nat) (ks : List (List UInt8)) : Prop where
  row : RowSl strC 1 w Empty A n cap ks
  isNil : A = none → n = 0 ∧ cap = 0
  blk : A = none ∨ ∃ kb o cur, A = some ⟨kb, o, none⟩ ∧ Blk w kb 9 cur ∧ ∀ k ∈ K, k.A ≠ some ⟨kb, 0, none⟩

theorem RowSl.take_ {α : Type} {cells : α → List Value} {k : Nat} {w : World} {S : Nat → Prop} {A : Option Addr} {n cap : Nat} {l : List α} (h : RowSl cells k w S A n cap l) {i : Nat} (hi : i ≤ n) : RowSl cells k w S A i cap (l.take i) := by
  refine ⟨by rw [List.length_take, h.1]; omega, by have := h.2.1; omega, h.2.2.1, fun h0 => ?_⟩
  obtain ⟨b, o, e, hb, hs, hc⟩ := h.2.2.2 (by omega)
  refine ⟨b, o, e, hb, hs, fun j f hf => hc j f ?_⟩
  rw [List.getElem?_take] at hf
  split at hf
  · exact hf
  · cases hf
theorem RowSl.drop_ {α : Type} {cells : α → List Value} {k : Nat} {w : World} {S : Nat → Prop} {b o n cap : Nat} {l : List α} (h : RowSl cells k w S (some ⟨b, o, none⟩) n cap l) {i : Nat} (hi : i ≤ n) : RowSl cells k w S (some ⟨b, o + i * k, none⟩) (n - i) (cap - i) (l.drop i) := by
  refine ⟨by rw [List.length_drop, h.1], by have := h.2.1; omega, by have := h.2.2.1; omega, fun h0 => ?_⟩
  obtain ⟨b2, o2, e, hb, hs, hc⟩ := h.2.2.2 (by omega)
  cases e
  refine ⟨b, _, rfl, hb, hs, fun j f hf q hq => ?_⟩
  rw [List.getElem?_drop] at hf
  have h1 := hc (i + j) f hf q hq
  have e1 : o + i * k + j * k + q = o + (i + j) * k + q := by rw [Nat.add_mul]; omega
  rw [e1]
  exact h1

section
variable {w w' : World} {K K' : List Kr} {A : Option Addr} {n cap : Nat} {ks : List (List UInt8)}
theorem KRow.move (h : KRow w K A n cap ks) (hs : w.heap.size ≤ w'.heap.size) (hm : ∀ q cur, Blk w q 9 cur → (∀ k ∈ K, k.A ≠ some ⟨q, 0, none⟩) → Blk w' q 9 cur) (hK : ∀ k' ∈ K', (∃ k ∈ K, k'.A = k.A) ∨ k'.A = none ∨ ∃ q, k'.A = some ⟨q, 0, none⟩ ∧ w.heap.size ≤ q) : KRow w' K' A n cap ks := by
  rcases h.blk with rfl | ⟨kb, o, cur, rfl, hb, hne⟩
  · refine ⟨⟨h.row.1, h.row.2.1, h.row.2.2.1, fun h0 => ?_⟩, h.isNil, Or.inl rfl⟩
    have := (h.isNil rfl).1
    omega
  · have hb2 := hm kb cur hb hne
    refine ⟨⟨h.row.1, h.row.2.1, h.row.2.2.1, fun h0 => ?_⟩, h.isNil, Or.inr ⟨kb, o, cur, rfl, hb2, fun k' hk' he => ?_⟩⟩
    · obtain ⟨b2, o2, e, hb3, hs2, hc⟩ := h.row.2.2.2 h0
      cases e
      exact ⟨kb, o, rfl, hb2.lt, fun h => h, fun i f hf j hj => by rw [hb2.cell, ← hb.cell]; exact hc i f hf j hj⟩
    · rcases hK k' hk' with ⟨k, hk, e⟩ | e | ⟨q, e, hq⟩
      · exact hne k hk (by rw [← e]; exact he)
      · rw [e] at he; cases he
      · rw [e] at he
        cases he
        have := hb.lt
        omega
theorem KRow.keep {E : TypeId → Prop} (h : KRow w K A n cap ks) (hs : w.heap.size ≤ w'.heap.size) (hk : Keep E w w') (hE : ¬ E 9) : KRow w' K A n cap ks :=
  h.move hs (fun q cur hq _ => hk q _ cur hq hE) (fun k hk => Or.inl ⟨k, hk, rfl⟩)
theorem KRow.none_ (h : KRow w K A n cap ks) (hA : A ≠ none) : KRow w K A 0 0 [] := ⟨RowSl.nil_ _ _ _ _ (Nat.zero_le _), fun e => absurd e hA, h.blk⟩
theorem KRow.drop_ {b o : Nat} (h : KRow w K (some ⟨b, o, none⟩) n cap ks) {i : Nat} (hi : i ≤ n) : KRow w K (some ⟨b, o + i, none⟩) (n - i) (cap - i) (ks.drop i) := by
  have h1 := h.row.drop_ hi
  rw [Nat.mul_one] at h1
  refine ⟨h1, (fun h => by cases h), ?_⟩
  rcases h.blk with hn | ⟨kb, o2, cur, e, hb, hne⟩
  · cases hn
  · cases e
    exact Or.inr ⟨b, o + i, cur, rfl, hb, hne⟩
end

end Go.Proofs.YtnhfmcijadficaaGreatDoor

/- Keys are put once more: the plain model; how a row of keys grows. -/
namespace Go.Proofs.YtnhfmcijadficaaGreatDoor
set_option maxRecDepth 100000
open Go.RowKit Go.Maps

/-- A change, a step, a plan without where they lie. -/
def Ch.nm (f : Ch) : Ch := ⟨f.del, f.s, none, f.n, 0, f.blob⟩
def Stp.nm : Stp → Stp
  | .lay k o t _ n _ l => .lay k o t none n 0 (l.map Ch.nm)
  | s => s
def PV.nm (P : PV) : PV := ⟨P.l, P.h, P.sts.map Stp.nm⟩
theorem PV.opened_nm (P : PV) (i Z : Nat) (s : Sc) : (P.opened i Z s).nm = P.nm.opened i Z s := by
  simp [PV.nm, PV.opened, Stp.nm]
theorem nm_sz (l : List Ch) : roomL (l.map Ch.nm) = roomL l := by
  unfold roomL
  rw [List.map_map]
  rfl
theorem PV.laid_nm (P : PV) (k o t : Nat) (A : Option Addr) (n cap : Nat) (l : List Ch) : (P.laid k o t A n cap l).nm = P.nm.laid k o t none n 0 (l.map Ch.nm) := by
  simp [PV.nm, PV.laid, Stp.nm, nm_sz]
theorem goSts_nm (L i : Nat) (s : Sc) : (goSts L i s).map Stp.nm = goSts L i s := by
  unfold goSts
  split <;> rfl
theorem PV.letGo_nm (P : PV) (L i : Nat) (s : Sc) : (P.letGo L i s).nm = P.nm.letGo L i s := by
  simp [PV.nm, PV.letGo, goSts_nm]

/-- The bounds of a plan's numbers. -/
structure Bd (P : PV) : Prop where
  q : Q32 P.l
  len : P.l.length ≤ 64
  sts : P.sts.length ≤ 1000000
  er : ∀ s ∈ P.l, 0 ≤ s.er ∧ s.er ≤ 2097152
theorem Bd.of_nm {P : PV} (h : Bd P.nm) : Bd P := ⟨h.q, h.len, by have := h.sts; simpa [PV.nm] using this, h.er⟩

/-- A plan's head, as its place in a sector. -/
structure HdOk (Z : Nat) (h : HeadV) (k o t : Nat) : Prop where
  sec : h.sec = (k : Int)
  next : h.next = ((k * Z + o : Nat) : Int)
  txn : h.txn + 1 = (t : Int)
  t0 : 0 ≤ h.txn
  t1 : h.txn ≤ 4294901759
  far : k * Z + o ≤ 4194304
  l0 : 0 ≤ h.left
  l1 : h.left ≤ 65536

/-- A sector is opened. -/
structure Opens (L : Nat) (P : PV) (i : Nat) (s : Sc) : Prop where
  best : best (opensB (L : Int)) Sc.er P.l P.l.length = some i
  at_ : P.l[i]? = some s
  more : ¬ lastQ P.l = 4294967295
  bd : Bd P
/-- None can be. -/
structure NoOpen (L : Nat) (P : PV) : Prop where
  no : best (opensB (L : Int)) Sc.er P.l P.l.length = none ∨ lastQ P.l = 4294967295
  bd : Bd P

/-- Keys are put once more. -/
inductive Again (Z L : Nat) (M : Al Sv) : Nat → PV → List (List (List UInt8)) → List (List UInt8) → Bool → PV → List (List (List UInt8)) → Prop
  | done (P K) : Again Z L M 0 P K [] true P K
  | opened (t P K ks b P' K' i s) : ks ≠ [] → fit M P.h ks = [] → Opens L P i s → Again Z L M t (P.opened i Z s) K ks b P' K' → Again Z L M (t + 1) P K ks b P' K'
  | stuck (P K ks) : ks ≠ [] → fit M P.h ks = [] → NoOpen L P → Again Z L M 0 P K ks false P K
  | lay (t P K ks b P' K' k o u kk) : ks ≠ [] → fit M P.h ks ≠ [] → HdOk Z P.h k o u → Bd P → K[k]? = some kk → kk.length ≤ 1048576 →
      Again Z L M t (P.laid k o u none (fit M P.h ks).length 0 ((fit M P.h ks).map fun x => (keyCh M x).nm)) (K.set k (kk ++ fit M P.h ks)) (ks.drop (fit M P.h ks).length) b P' K' → Again Z L M (t + 1) P K ks b P' K'

theorem Again.inv {Z L : Nat} {M : Al Sv} {t : Nat} {P : PV} {K : List (List (List UInt8))} {ks : List (List UInt8)} {b : Bool} {P' : PV} {K' : List (List (List UInt8))} (h : Again Z L M t P K ks b P' K') (hne : ks ≠ []) :
    (fit M P.h ks = [] ∧ ∃ t0 i s, t = t0 + 1 ∧ Opens L P i s ∧ Again Z L M t0 (P.opened i Z s) K ks b P' K') ∨ (fit M P.h ks = [] ∧ NoOpen L P ∧ b = false ∧ P' = P ∧ K' = K) ∨
    (fit M P.h ks ≠ [] ∧ ∃ t0 k o u kk, t = t0 + 1 ∧ HdOk Z P.h k o u ∧ Bd P ∧ K[k]? = some kk ∧ kk.length ≤ 1048576 ∧ Again Z L M t0 (P.laid k o u none (fit M P.h ks).length 0 ((fit M P.h ks).map fun x => (keyCh M x).nm)) (K.set k (kk ++ fit M P.h ks)) (ks.drop (fit M P.h ks).length) b P' K') := by
  cases h with
  | done => exact absurd rfl hne
  | opened t P K ks b P' K' i s h1 h2 h3 h4 => exact Or.inl ⟨h2, t, i, s, rfl, h3, h4⟩
  | stuck P K ks h1 h2 h3 => exact Or.inr (Or.inl ⟨h2, h3, rfl, rfl, rfl⟩)
  | lay t P K ks b P' K' k o u kk h1 h2 h3 h4 h5 h6 h7 => exact Or.inr (Or.inr ⟨h2, t, k, o, u, kk, rfl, h3, h4, h5, h6, h7⟩)
theorem Again.nil_ {Z L : Nat} {M : Al Sv} {t : Nat} {P : PV} {K : List (List (List UInt8))} {b : Bool} {P' : PV} {K' : List (List (List UInt8))} (h : Again Z L M t P K [] b P' K') : b = true ∧ P' = P ∧ K' = K := by
  cases h with
  | done => exact ⟨rfl, rfl, rfl⟩
  | opened t P K ks b P' K' i s h1 _ _ _ => exact absurd rfl h1
  | stuck P K ks h1 _ _ => exact absurd rfl h1
  | lay t P K ks b P' K' k o u kk h1 _ _ _ _ _ _ => exact absurd rfl h1

theorem fitL_pre (M : Al Sv) (h : HeadV) : ∀ (ks : List (List UInt8)) (r : Nat), ∃ m, m ≤ ks.length ∧ fitL M h r ks = ks.take m
  | [], _ => ⟨0, Nat.le_refl _, rfl⟩
  | k :: ks, r => by
    unfold fitL
    split
    · obtain ⟨m, h1, h2⟩ := fitL_pre M h ks (r + (keyCh M k).sz)
      exact ⟨m + 1, by simpa using h1, by rw [h2]; rfl⟩
    · exact ⟨0, Nat.zero_le _, rfl⟩
theorem fit_take (M : Al Sv) (h : HeadV) (ks : List (List UInt8)) : fit M h ks = ks.take (fit M h ks).length ∧ (fit M h ks).length ≤ ks.length ∧ (fit M h ks).length ≤ 16 := by
  obtain ⟨m, h1, h2⟩ := fitL_pre M h (ks.take 16) 16
  have h3 : fit M h ks = (ks.take 16).take m := h2
  rw [List.length_take] at h1
  have h4 : (fit M h ks).length = m := by rw [h3, List.length_take, List.length_take]; omega
  rw [h4]
  refine ⟨?_, by omega, by omega⟩
  rw [h3, List.take_take, Nat.min_eq_left (by omega)]

theorem chs_of {w : World} {base : Nat} {A : Option Addr} {n cap : Nat} {l : List Ch} (h : GotR Ch.cells 3 37 base w A n cap l) (hb : ∀ f ∈ l, ByteSl w Empty f.A f.n f.cap f.blob ∧ (f.A = none → f.n = 0 ∧ f.cap = 0)) : Chs w Empty A n cap l :=
  ⟨h.row.1, h.row.2.1, h.row.2.2.1, h.row.2.2.2, hb⟩

/-- append onto a row of the call's own, as an equation, and where the new row lies. -/
theorem run_append_at {α : Type} {cells : α → List Value} {k : Nat} {w : World} {S : Nat → Prop} (hk : ∀ f, (cells f).length = k) (h1 : ∀ f, ∀ v ∈ cells f, v.oneCell' = true) (hk0 : 0 < k)
    (ts te : TypeId) (zero : Value) (bytes : Nat) (hts : Tryz.prog.underlying ts = some (.slice te)) (hinfo : (Tryz.prog.info? te).map (fun i => (i.zero, i.size, i.bytes)) = some (some zero, k, bytes)) (hzc : zero.cells.size = k) (hby : bytes ≤ 1024) (ty : TypeId)
    (base : Nat) (B : Option Addr) (m0 c0 : Nat) (zs : List α) (hown : GotR cells k te base w B m0 c0 zs) (ad : Addr) (m c : Nat) (l : List α) (hB : RowSl cells k w S (some ad) m c l) (hm : m0 + m ≤ 16777216) (hbase : base ≤ w.heap.size) :
    ∃ A' c' w', (Builtin.append_ #[ts, ts] ty #[.slice B m0 c0, .slice (some ad) m c]).run Tryz.prog w = .ok (.slice A' (m0 + m) c') w' ∧ GotR cells k te base w' A' (m0 + m) c' (zs ++ l) ∧ w.grownBy w' (Value.slice B m0 c0).ownBlock ∧ (∀ g, (Value.slice B m0 c0).ownBlock = some g → base ≤ g) ∧
      ((Value.slice A' (m0 + m) c').ownBlock = (Value.slice B m0 c0).ownBlock ∨ (Value.slice A' (m0 + m) c').ownBlock = some w.heap.size) := by
  obtain ⟨i0, hi, hz0, hz1, hz2⟩ := info_parts hinfo
  have hown1 : ∀ g, (Value.slice B m0 c0).ownBlock = some g → base ≤ g := fun g hg => (hown.own.lt g hg).1
  obtain ⟨v', w', hr, h2, h3, _, h5⟩ := run_append_own_at (P := Tryz.prog) w base ts ty te i0 _ k bytes hts hi hz0 hz1 hz2 hzc hk0 _ m0 (zs.flatMap cells) hown.own ad m c (l.flatMap cells) (by rw [rows_len hk, hB.1]) (hB.news hk hk0) (fun v hv => by
    obtain ⟨f, _, hf⟩ := List.mem_flatMap.1 hv
    exact h1 f v hf) (by unfold maxLen; omega) (by have h2 : (m0 + m) * bytes ≤ 16777216 * 1024 := Nat.mul_le_mul hm hby; omega) hbase
  obtain ⟨A', c', rfl, h4⟩ := GotR.of_own hk (l := zs ++ l) (by rw [List.flatMap_append]; exact h2) (by rw [List.length_append, hown.row.1, hB.1])
  exact ⟨A', c', w', hr, h4, h3, hown1, h5⟩

/-- The types of the rows of keys. -/
def EK (t : TypeId) : Prop := t = 67 ∨ t = 9
theorem PlanAt.keep {w w' : World} {g base p mb Z : Nat} {vk : Value} {R : PP} {P : PV} {E : TypeId → Prop} (h : PlanAt w g base p mb Z vk R P) (hK : Keep E w w') (h1 : ¬ E 109) (h2 : ¬ E 96) (h3 : ¬ E 150) : PlanAt w' g base p mb Z vk R P :=
  ⟨hK _ _ _ h.blk h1, h.secs.keep Sc.cells_len hK h2, h.sts.keep (stp_len p Z) hK h3⟩

section
variable {w : World} {g base bi p c e mb Z L nM kn kcap : Nat} {ss : List (Nat × List UInt8)} {M : Al Sv} {KA : Option Addr} {R : PP} {P : PV} {K : List Kr} {A : Option Addr} {n cap : Nat} {ks : List (List UInt8)}
/-- A row of keys grows by the first keys of another. -/
theorem PW.keys_step (h : PW w g base bi p c e mb Z L ss nM M KA kn kcap R P K) (C : PC g base p c e mb Z L ss M) (hr : KRow w K A n cap ks) {k m : Nat} {kk : Kr} (hk : K[k]? = some kk) (hm : m ≤ n) (hm0 : 0 < m) (hm1 : m ≤ 16) (hkl : kk.ks.length ≤ 1048576) (hbi : bi ≤ w.heap.size) :
    ∃ kg A4 c4 w4, KA = some ⟨kg, 0, none⟩ ∧ (Builtin.append_ #[67, 67] 67 #[.slice kk.A kk.ks.length kk.cap, .slice A m cap]).run Tryz.prog w = .ok (.slice A4 (kk.ks.length + m) c4) w4 ∧
      PW (w4.setCell ⟨kg, k, none⟩ (.slice A4 (kk.ks.length + m) c4)) g base bi p c e mb Z L ss nM M KA kn kcap R P (K.set k ⟨A4, c4, kk.ks ++ ks.take m⟩) ∧
      KRow (w4.setCell ⟨kg, k, none⟩ (.slice A4 (kk.ks.length + m) c4)) (K.set k ⟨A4, c4, kk.ks ++ ks.take m⟩) A n cap ks ∧ PQ g base w (w4.setCell ⟨kg, k, none⟩ (.slice A4 (kk.ks.length + m) c4)) ∧
      w4.frozen? ⟨kg, k, none⟩ = false ∧ kg < w4.heap.size ∧ PQ g base w w4 ∧ w.cell? ⟨kg, k, none⟩ = some (.slice kk.A kk.ks.length kk.cap) ∧ w4.cell? ⟨kg, k, none⟩ = some (.slice kk.A kk.ks.length kk.cap) ∧ kg ≠ g ∧ kg < w.heap.size ∧ PlanAt w4 g base p mb Z (.slice KA kn kcap) R P := by
  have hkl0 : k < K.length := (List.getElem?_eq_some_iff.1 hk).1
  obtain ⟨kg, rfl⟩ : ∃ kg, KA = some ⟨kg, 0, none⟩ := by
    rcases h.keys.outer.here with hn | ⟨q, cur, he, _⟩
    · have := (h.keys.outer.isNil hn).1
      omega
    · exact ⟨q, he⟩
  obtain ⟨ad, rfl⟩ : ∃ ad, A = some ad := by
    cases A with
    | none => have := (hr.isNil rfl).1; omega
    | some ad => exact ⟨ad, rfl⟩
  have hki := h.keys.inner k kk hk
  obtain ⟨A4, c4, w4, hrun, hG, hgr, hro, hloc⟩ := run_append_at strC_len strC_one (by decide) 67 9 _ 16 Tryz.underlying67 Tryz.infoStr (by simp [Value.cells]) (by decide) 67 bi kk.A kk.ks.length kk.cap kk.ks hki ad m cap (ks.take m) (hr.row.take_ hm) (by omega) hbi
  have hlm : (ks.take m).length = m := by rw [List.length_take, hr.row.1]; omega
  have hput := h.keys.put rfl hk hG hlm hgr (hloc.imp id (fun e => ⟨_, e, Nat.le_refl _⟩))
  obtain ⟨curg, hBg⟩ : ∃ cur, Blk w kg 67 cur := by
    rcases h.keys.outer.here with hn | ⟨q, cur, he, _, hB, _⟩
    · cases hn
    · cases he
      exact ⟨cur, hB⟩
  have hkgb : base ≤ kg := by
    rcases h.keys.outer.here with hn | ⟨q, cur, he, hb, _⟩
    · cases hn
    · cases he
      exact hb
  -- the block of the row that grows
  have hrow : kk.A = none ∨ ∃ q cur, kk.A = some ⟨q, 0, none⟩ ∧ Blk w q 9 cur ∧ bi ≤ q := by
    rcases hki.here with hn | ⟨q, cur, he, hb, hB, _⟩
    · exact Or.inl hn
    · exact Or.inr ⟨q, cur, he, hB, hb⟩
  have hO4 : Only (fun q => kk.A = some ⟨q, 0, none⟩) w w4 := Only.of_grown hgr (fun q e _ => by
    rw [own_block] at e
    rcases hrow with hn | ⟨q2, cur, he, _⟩
    · rw [hn] at e; cases e
    · rw [he] at e ⊢
      simp at e
      rw [e])
  have hKp4 : Keep EK w w4 := fun q t cs h1 h2 => hO4.blk h1 (fun he => by
    rcases hrow with hn | ⟨q2, cur, he2, hB, _⟩
    · rw [hn] at he; cases he
    · rw [he2] at he
      cases he
      exact Blk.ne_ h1 hB (fun e2 => h2 (Or.inr e2)) rfl)
  have hBg4 : Blk w4 kg 67 curg := hO4.blk hBg (fun he => by
    rcases hrow with hn | ⟨q2, cur, he2, hB, _⟩
    · rw [hn] at he; cases he
    · rw [he2] at he
      cases he
      exact Blk.ne_ hBg hB (by decide) rfl)
  have hO5 : Only (· = kg) w4 (w4.setCell ⟨kg, k, none⟩ (.slice A4 (kk.ks.length + m) c4)) := (Only.refl (· = kg) w4).setCell (p := ⟨kg, k, none⟩) (Or.inl rfl) _
  have hKp5 : Keep EK w4 (w4.setCell ⟨kg, k, none⟩ (.slice A4 (kk.ks.length + m) c4)) := Keep.of_block hBg4 (Or.inl rfl) hO5
  have hEK : ∀ t, EK t → EPK t := fun t h => Or.inr h
  have hq4 : PQ g base w w4 := ⟨hO4.mono (fun q _ hq => by
    rcases hrow with hn | ⟨q2, cur, he2, hB, hb⟩
    · rw [hn] at hq; cases hq
    · rw [he2] at hq
      cases hq
      exact Or.inr (Nat.le_trans h.keys.le hb)), hKp4.mono hEK⟩
  have hq5 : PQ g base w (w4.setCell ⟨kg, k, none⟩ (.slice A4 (kk.ks.length + m) c4)) := hq4.trans ⟨hO5.mono (fun q _ hq => Or.inr (by omega)), hKp5.mono hEK⟩
  have hc := h.keys.outer.cell1 hk rfl
  have hcell : w.cell? ⟨kg, k, none⟩ = some (.slice kk.A kk.ks.length kk.cap) := hc.1
  refine ⟨kg, A4, c4, w4, rfl, hrun, ?_, ?_, hq5, hBg4.frozen k, hBg4.lt, hq4, hcell, ?_, fun e => Blk.ne_ hBg h.plan.blk (by decide) e, hBg.lt, h.plan.keep hKp4 (by unfold EK; decide) (by unfold EK; decide) (by unfold EK; decide)⟩
  · exact h.pq_ C hq5 (h.plan.keep (hKp4.trans hKp5) (by unfold EK; decide) (by unfold EK; decide) (by unfold EK; decide)) hput (by rw [List.length_set]; exact h.kn) (fun s hs => Or.inl hs)
  · refine hr.move hq5.size (fun q cur hq hne => ?_) (fun k' hk' => ?_)
    · have h4 : Blk w4 q 9 cur := hO4.blk hq (fun he => hne kk (List.mem_of_getElem? hk) he)
      exact hO5.blk h4 (fun e => Blk.ne_ h4 hBg4 (by decide) e)
    · rcases List.mem_or_eq_of_mem_set hk' with h1 | rfl
      · exact Or.inl ⟨k', h1, rfl⟩
      · show (∃ k ∈ K, A4 = k.A) ∨ A4 = none ∨ ∃ q, A4 = some ⟨q, 0, none⟩ ∧ w.heap.size ≤ q
        rcases strs_addr hG with h1 | ⟨n1, h1, _, _⟩
        · exact Or.inr (Or.inl h1)
        · rcases hloc with hl | hl
          · refine Or.inl ⟨kk, List.mem_of_getElem? hk, ?_⟩
            rw [own_block, own_block, h1] at hl
            rcases hrow with hn | ⟨q2, cur, he2, _⟩
            · rw [hn] at hl; cases hl
            · rw [he2] at hl ⊢
              simp at hl
              rw [h1, hl]
          · rw [own_block, h1] at hl
            simp at hl
            exact Or.inr (Or.inr ⟨n1, h1, by omega⟩)
  · rw [← hcell, hBg4.cell, hBg.cell]
end

end Go.Proofs.YtnhfmcijadficaaGreatDoor
