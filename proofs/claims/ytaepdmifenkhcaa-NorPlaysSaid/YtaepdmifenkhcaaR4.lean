/- The walk over the document's Program where the fuse is 0. -/
import Derived.Test.YtaepdmifenkhcaaR3
import Derived.Deep.RegionLaw
namespace Go.Proofs.Ytaepdmifenkhcaa
open Go.RowKit

theorem step_copy_only {P : Program} {ops : Array Oper} {o : Oper} {a : Act} {w : World} {K : Act → World → Prop} {Q : Exit → Act → World → Prop} {E : Prop} (hgd : o.guard = none) (d s : Operand) (dT sT : TypeId)
    (ho : o.op = .call { callee := .builtin .copy, args := #[d, s], argTypes := #[dT, sT] }) (elem : TypeId) (hu : P.underlying dT = some (.slice elem)) (hsz : (P.info? elem).map (·.size) = some 1)
    (dp sp : Option Addr) (dLen dCap sLen sCap : Nat) (hd : a.eval d = .slice dp dLen dCap) (hs : a.eval s = .slice sp sLen sCap)
    (g off : Nat) (cur : List Value) (t : TypeId) (hg : Blk w g t cur.toArray) (cs : List Value) (hn : cs.length = Nat.min sLen dLen)
    (hpos : 0 < cs.length → dp = some ⟨g, off, none⟩ ∧ ∃ ad, sp = some ad ∧ ∀ j v, cs[j]? = some v → w.cell? (ad.add j) = some v) (hfit : off + cs.length ≤ cur.length) (h1 : ∀ v ∈ cs, v.oneCell' = true)
    (h : ∀ w', Hid (Blk w' g t (splice cur off cs).toArray) → Only (· = g) w w' → K (a.put o.dst (goInt cs.length)) w') :
    if Region.wanted o (yielded ops a.tmps) = true then Oper.wp P o a w K Q else E := by
  have hw : Region.wanted o (yielded ops a.tmps) = true := by simp [Region.wanted, hgd]
  rw [if_pos hw]
  by_cases h0 : cs.length = 0
  · obtain rfl : cs = [] := List.eq_nil_of_length_eq_zero h0
    have hrun := run_copy_none (P := P) w dT sT o.type elem dp sp dLen dCap sLen sCap hu hsz (by simpa using hn.symm)
    unfold Oper.wp
    simp [execOp, ho, resolve, invoke, builtin, hd, hs, hrun, Result.andThen]
    exact h w (show Blk w g t (splice cur off []).toArray by simpa [splice] using hg) (Only.refl _ _)
  · obtain ⟨rfl, ad, rfl, hsrc⟩ := hpos (by omega)
    have hrun := run_copy_row (P := P) w dT sT o.type elem g off dLen dCap ad sLen sCap cur.toArray t cs hu hsz hg hn hsrc (by simpa using hfit) h1
    unfold Oper.wp
    simp [execOp, ho, resolve, invoke, builtin, hd, hs, hrun, Result.andThen]
    exact h _ (show (w.setRow g _).heap[g]? = _ by simpa [splice] using setRow_heap w g _ _ t _ hg) (only_setRow w g _)

theorem morgan (b x m : UInt8) : b &&& (x ||| ~~~m) = b &&& ~~~(m &&& ~~~x) := by
  apply UInt8.toBitVec_inj.1
  show b.toBitVec &&& (x.toBitVec ||| ~~~m.toBitVec) = b.toBitVec &&& ~~~(m.toBitVec &&& ~~~x.toBitVec)
  ext i hi
  simp only [BitVec.getElem_or, BitVec.getElem_and, BitVec.getElem_not]
  cases x.toBitVec[i] <;> cases m.toBitVec[i] <;> rfl
theorem b_rtorn (b x m : UInt8) : Value.int .u8 (bits .and .u8 (b.toNat : Int) (bits .or .u8 (x.toNat : Int) (255 - (m.toNat : Int)))) = B8 (b &&& ~~~(m &&& ~~~x)) := by
  have e : (255 - (m.toNat : Int)) = ((~~~m).toNat : Int) := by
    rw [n_not]
    have := byte_lt m
    omega
  rw [e, b_or, b_and, morgan]
  rfl

/-- What the walk needs of the flash behind the fuse. -/
structure TornAt (w w1 : World) (p c e at_ n : Nat) (fl : Fl) (xs : List UInt8) : Prop where
  hf : RefAt w1 p c e fl.burn
  ho : Only (· = p) w w1
  fu : fl.fuse = 0
  bl : at_ + n ≤ fl.bs.length
  xl : xs.length = n
  fit : Fits fl.bs at_ xs

theorem TornAt.done {w w1 w2 : World} {p c e at_ n m : Nat} {fl : Fl} {xs : List UInt8} (h : TornAt w w1 p c e at_ n fl xs) (hm : m = fl.many n) {bs : List UInt8} (hbs : bs = fl.bs.mapIdx (tornF at_ xs m fl.mask)) (hb : Blk w2 c 5 (cellsB bs)) (ho2 : Only (· = c) w1 w2) :
    RefAt w2 p c e (fl.prog at_ xs) ∧ Only (Three p c e) w w2 := by
  subst hbs
  have h1 := h.hf.bytes ho2 h.hf.pc h.hf.cep.symm (by rw [fl.burn_geo.2.2.2.1]; simp) hb
  refine ⟨?_, (h.ho.mono (fun i _ hi => Or.inl hi)).trans (ho2.mono (fun i _ hi => Or.inr (Or.inl hi)))⟩
  unfold Fl.prog
  rw [h.xl, ← hm]
  exact h1

set_option maxRecDepth 100000 in
set_option maxHeartbeats 8000000 in
theorem rprogram_torn (p c e at_ n cap : Nat) (fl : Fl) (xs : List UInt8) (A : Option Addr) (w : World) (hf : RefAt w p c e fl) (hu : fl.up = true) (hfu : fl.fuse = 0) (hs : ByteSl w (Three p c e) A n cap xs)
    (hin : at_ + n ≤ fl.S * fl.Z) (hfit : Fits fl.bs at_ xs) (hn : 0 < n) (hk : 0 ≤ fl.keep) :
    Calls Try.prog 25 #[.pointer (some ⟨p, 0, none⟩), .int .i64 (at_ : Int), .slice A n cap] w fun e1 w' => e1 = .returned (.int .i64 5) ∧
      RefAt w' p c e (fl.prog at_ xs) ∧ Only (Three p c e) w w' := by
  have hsz := hf.ok.sz
  have hnc := hs.2.1
  have hthere := there_yes p c (fl.S * fl.Z) at_ n w (by rw [hf.hd.cell]; simp [Fl.rhdr]) (by omega) hin
  have h5 : w.cell? ⟨p, 5, none⟩ = some (.bool false) := by rw [hf.hd.cell]; simp [Fl.rhdr, hu]
  have h3 : w.cell? ⟨p, 3, none⟩ = some (.slice (some ⟨c, 0, none⟩) (fl.S * fl.Z) (fl.S * fl.Z)) := by rw [hf.hd.cell]; simp [Fl.rhdr]
  obtain ⟨T, hT⟩ : ∃ T, T = fl.S * fl.Z := ⟨_, rfl⟩
  rw [← hT] at h3 hin hsz
  have hbl : fl.bs.length = T := by rw [hf.ok.bl, hT]
  have hnm : n < 4611686018427387904 := by omega
  have hkm : fl.keep % ((n : Int) + 1) = ((fl.many n : Nat) : Int) := by
    unfold Fl.many
    rw [if_pos hfu, Int.max_eq_left hk]
    obtain ⟨q, hq⟩ := Int.eq_ofNat_of_zero_le hk
    rw [hq]
    simp
  have hml := fl.many_le n
  have Hbl := Lib.hid hbl
  have HT := Lib.hid hT
  have Hxl := Lib.hid hs.1
  have Ht := Lib.hid hthere
  have Hu := Lib.hid hu
  have Hfu := Lib.hid hfu
  have Hkm := Lib.hid hkm
  clear hthere hT hu hbl hfu hkm
  go_enter Try.func25, Try.ntmps25
  go_wp2_with fail
  refine Ht.out.mono ?_
  rintro e1 w1 ⟨rfl, rfl⟩
  go_wp2_with fail
  go_loop [22] (fun i => ∃ k : Nat, k ≤ n ∧ i = .int .i64 (k : Int)) (fun i => n - (intOf i).toNat)
  case atStart => exact ⟨0, Nat.zero_le _, rfl⟩
  case round =>
    obtain ⟨k, hk1, rfl⟩ := hrel
    by_cases hlt : k < n
    · obtain ⟨ad, x, rfl, hab, hnS, hx, hxc⟩ := hs.at_ hlt
      have hcl : at_ + k < fl.bs.length := by rw [Hbl.out]; omega
      have hcc : w.cell? ⟨c, at_ + k, none⟩ = some (B8 (fl.bs[at_ + k]?.getD 0)) := by
        rw [hf.ce.cell]
        simp [hcl]
      have hz : (bits .and .u8 ((xs[k]?.getD 0).toNat : Int) ((fl.bs[at_ + k]?.getD 0).toNat : Int) != ((xs[k]?.getD 0).toNat : Int)) = false := by
        rw [b_and, fit_and (hfit k (by rw [Hxl.out]; exact hlt))]; simp
      rw [hx] at hz
      unfold B8 at hxc hcc
      simp only [Option.getD_some] at hz
      generalize fl.bs[at_ + k]?.getD 0 = cb at hz hcc
      clear hs hf hfit hcl hx hk hml
      go_wp2
      go_round
      case rel => exact ⟨k + 1, by omega, by go_num⟩
      case measure => simp [intOf]; omega
    · go_wp2_with fail
      refine (whole_any p c e fl w hf Hu.out).mono ?_
      rintro e1 w1 ⟨rfl, hf1, ho1⟩
      rw [decide_eq_true Hfu.out]
      have hTA : TornAt w w1 p c e at_ n fl xs := ⟨hf1, ho1, Hfu.out, by rw [Hbl.out]; exact hin, Hxl.out, hfit⟩
      have hs1 : ByteSl w1 (Three p c e) A n cap xs := hs.only ho1 (by intro i _ hi; exact Or.inl hi)
      have g3 : w1.cell? ⟨p, 3, none⟩ = some (.slice (some ⟨c, 0, none⟩) T T) := by rw [hf1.hd.cell]; simp [Fl.rhdr, fl.burn_geo, HT.out]
      have g7 : w1.cell? ⟨p, 7, none⟩ = some (.int .i64 fl.keep) := by rw [hf1.hd.cell]; simp [Fl.rhdr, fl.burn_rest.2]
      have HTA := Lib.hid hTA
      clear hf hs h3 h5 hf1 ho1 hfit hTA
      go_wp2_with fail
      rw [Hkm.out]
      obtain ⟨m, hm⟩ : ∃ m, m = fl.many n := ⟨_, rfl⟩
      rw [← hm] at hml ⊢
      have Hm := Lib.hid hm
      have hce := HTA.out.hf.ce
      rw [fl.burn_geo.2.2.2.1] at hce
      have g8 : w1.cell? ⟨p, 8, none⟩ = some (.int .u8 (fl.mask.toNat : Int)) := by rw [HTA.out.hf.hd.cell]; simp [Fl.rhdr, fl.burn_rest.1, B8]
      obtain ⟨X, hX⟩ : ∃ X, X = fl.bs.map B8 := ⟨_, rfl⟩
      obtain ⟨Y, hY⟩ : ∃ Y, Y = (xs.take m).map B8 := ⟨_, rfl⟩
      rw [← hX] at hce
      have hXl : X.length = T := by rw [hX, List.length_map, Hbl.out]
      have hYl : Y.length = m := by rw [hY, List.length_map, List.length_take, Hxl.out]; omega
      have hY1 : ∀ v ∈ Y, v.oneCell' = true := by
        intro v hv
        rw [hY] at hv
        obtain ⟨b, _, rfl⟩ := List.mem_map.1 hv
        rfl
      obtain ⟨ad, hA, _, _, hcs⟩ := hs1.2.2.2 hn
      subst hA
      have hsrc : ∀ j v, Y[j]? = some v → w1.cell? (ad.add j) = some v := by
        intro j v hv
        rw [hY, List.getElem?_map, List.getElem?_take] at hv
        split at hv
        · rcases hx : xs[j]? with _ | x
          · rw [hx] at hv; cases hv
          · rw [hx] at hv
            simp at hv
            rw [hcs j x hx, hv]
        · cases hv
      have hXY : splice X at_ Y = (fl.bs.mapIdx (progF at_ xs m)).map B8 := by
        rw [hX, hY, splice_map, splice_prog fl.bs xs at_ m HTA.out.fit (by rw [Hxl.out]; exact hml) (by rw [Hbl.out, Hxl.out]; exact hin)]
      have Hsrc := Lib.hid hsrc
      have Hce := Lib.hid hce
      have HXl := Lib.hid hXl
      have HYl := Lib.hid hYl
      have HY1 := Lib.hid hY1
      have HXY := Lib.hid hXY
      have Hs1 := Lib.hid hs1
      have hap := HTA.out.hf.pc
      clear hsrc hce hXl hYl hY1 hX hY hXY hs1 hcs hm hk hml
      have hml := fl.many_le n
      rw [← Hm.out] at hml
      have hat : ¬ T = at_ := by omega
      have hl0 : (0 : Int) ≤ (at_ : Int) := by omega
      have hl1 : (at_ : Int) ≤ (T : Int) := by omega
      have hm0 : (0 : Int) ≤ (m : Int) := by omega
      have hm1 : (m : Int) ≤ (cap : Int) := by omega
      go_region_law (refine step_copy_only rfl (.tmp 66) (.tmp 69) 34 34 rfl 5 Try.underlying34 Try.sizeU8 (some ⟨c, at_, none⟩) (some ad) (T - at_) (T - at_) m cap rfl rfl c at_ X 5 Hce.out.drew Y (by rw [HYl.out]; simp only [Nat.min_def]; split <;> omega) (fun _ => ⟨rfl, ad, rfl, Hsrc.out⟩) (by rw [HYl.out, HXl.out]; omega) HY1.out ?_; intro w2 hb2 ho2)
      have hb3 := hb2.out
      rw [HXY.out] at hb3
      have hb4 : Blk w2 c 5 (cellsB (fl.bs.mapIdx (progF at_ xs m))) := hb3
      have hw12 : Only (· = c) w1 w2 := ((Only.refl (· = c) w1).drew).trans ho2
      have Hb4 := Lib.hid hb4
      have Hw12 := Lib.hid hw12
      have k3 : w2.cell? ⟨p, 3, none⟩ = some (.slice (some ⟨c, 0, none⟩) T T) := by rw [hw12.cell (p := ⟨p, 3, none⟩) HTA.out.hf.hd.lt hap]; exact g3
      have k8 : w2.cell? ⟨p, 8, none⟩ = some (.int .u8 (fl.mask.toNat : Int)) := by rw [hw12.cell (p := ⟨p, 8, none⟩) HTA.out.hf.hd.lt hap]; exact g8
      have hs2 := Hs1.out.only hw12 (fun i _ hi => Or.inr (Or.inl hi))
      clear hb2 hb3 hb4 ho2 hw12 g3 g7 g8
      by_cases hmn : m < n
      · obtain ⟨ad', x, hA', _, _, hx, hxc⟩ := hs2.at_ hmn
        injection hA' with hA'
        subst hA'
        have hcl : at_ + m < fl.bs.length := by rw [Hbl.out]; omega
        have hcc : w2.cell? ⟨c, at_ + m, none⟩ = some (B8 (fl.bs[at_ + m]?.getD 0)) := by
          rw [Hb4.out.cell, cellsB_get, List.getElem?_mapIdx]
          simp [hcl, progF]
        have hfr := Hb4.out.frozen (at_ + m)
        unfold B8 at hxc hcc
        have Hx := Lib.hid hx
        generalize hcb : fl.bs[at_ + m]?.getD 0 = cb at hcc
        have Hcb := Lib.hid hcb
        have hmb := byte_lt fl.mask
        have hsum : IntKind.i64.wrap ((at_ : Int) + (m : Int)) = (at_ : Int) + (m : Int) := by rw [IntKind.wrap_i64]; omega
        have hidx : (at_ : Int) + (m : Int) < (T : Int) := by omega
        have hmn2 : (m : Int) < (n : Int) := by omega
        clear hcb hx hs2 hcl
        go_wp2_with fail
        go_region
        go_wp2
        go_ret
        rw [b_rtorn]
        have hl := progF_torn fl.bs at_ m xs fl.mask (by rw [Hxl.out]; exact hmn)
        rw [Hcb.out, Hx.out, Option.getD_some] at hl
        have hb5 := Hb4.out.set_ (at_ + m) (B8 (cb &&& ~~~(fl.mask &&& ~~~x)))
        rw [cellsB_set, hl] at hb5
        obtain ⟨h1, h2⟩ := HTA.out.done Hm.out rfl hb5 (Hw12.out.setCell (p := ⟨c, at_ + m, none⟩) (Or.inl rfl) _)
        exact ⟨rfl, h1.drew, h2.drew⟩
      · clear hs2
        go_wp2
        go_ret
        obtain ⟨h1, h2⟩ := HTA.out.done Hm.out (progF_all fl.bs at_ m xs fl.mask (by rw [Hxl.out]; exact hmn)) Hb4.out Hw12.out
        exact ⟨rfl, h1, h2⟩

end Go.Proofs.Ytaepdmifenkhcaa
