/- The walk over the document's Program. -/
import Derived.Test.YtaepdmifenkhcaaR2
import Derived.Test.YtaepdmifenkhcaaC1
import Derived.Laws.CopyOwn
namespace Go.Proofs.Ytaepdmifenkhcaa
open Go.RowKit

/-! ### copy: only the one block turns -/
theorem only_setRow (w : World) (g : Nat) (cs : Array Value) : Only (· = g) w (w.setRow g cs) :=
  ⟨rfl, rfl, rfl, by simp [World.setRow], fun k _ hk => setRow_other w g k cs hk⟩

section
variable {P : Program} {w : World} {ops : Array Oper} {rest : List Oper} {o : Oper} {a : Act} {Q : Exit → Act → World → Prop}
theorem wpList_copy_only (hgd : o.guard = none) (d s : Operand) (dT sT : TypeId) (ho : o.op = .call { callee := .builtin .copy, args := #[d, s], argTypes := #[dT, sT] })
    (elem : TypeId) (hu : P.underlying dT = some (.slice elem)) (hsz : (P.info? elem).map (·.size) = some 1) (dp sp : Option Addr) (dLen dCap sLen sCap : Nat) (hd : a.eval d = .slice dp dLen dCap) (hs : a.eval s = .slice sp sLen sCap)
    (g off : Nat) (cur : List Value) (t : TypeId) (hg : Blk w g t cur.toArray) (cs : List Value) (hn : cs.length = Nat.min sLen dLen)
    (hpos : 0 < cs.length → dp = some ⟨g, off, none⟩ ∧ ∃ ad, sp = some ad ∧ ∀ j v, cs[j]? = some v → w.cell? (ad.add j) = some v) (hfit : off + cs.length ≤ cur.length) (h1 : ∀ v ∈ cs, v.oneCell' = true)
    (h : ∀ w', Hid (Blk w' g t (splice cur off cs).toArray) → Only (· = g) w w' → wpList P ops Q rest (a.put o.dst (goInt cs.length)) w') : wpList P ops Q (o :: rest) a w := by
  by_cases h0 : cs.length = 0
  · obtain rfl : cs = [] := List.eq_nil_of_length_eq_zero h0
    refine wpList_copy_nothing hgd d s dT sT ho elem hu hsz dp sp dLen dCap sLen sCap hd hs (by simpa using hn.symm) ?_
    exact h w (show Blk w g t (splice cur off []).toArray by simpa [splice] using hg) (Only.refl _ _)
  · obtain ⟨rfl, ad, rfl, hsrc⟩ := hpos (by omega)
    refine wpList_copy_own hgd d s dT sT ho elem hu hsz g off dLen dCap ad sLen sCap hd hs cur.toArray t hg cs hn hsrc (by simpa using hfit) h1 ?_
    exact h _ (show w.setRow g _ |>.heap[g]? = _ by simpa [splice] using setRow_heap w g _ _ t _ hg) (only_setRow w g _)
end

theorem splice_map (bs xs : List UInt8) (o : Nat) : splice (bs.map B8) o (xs.map B8) = (splice bs o xs).map B8 := by
  simp [splice, List.map_take, List.map_drop]

theorem splice_prog (bs xs : List UInt8) (o k : Nat) (hf : Fits bs o xs) (hk : k ≤ xs.length) (hin : o + xs.length ≤ bs.length) : splice bs o (xs.take k) = bs.mapIdx (progF o xs k) := by
  have hl : (xs.take k).length = k := by rw [List.length_take]; omega
  apply List.ext_getElem?
  intro j
  unfold splice
  rw [hl, List.getElem?_mapIdx]
  have ho : (bs.take o).length = o := by rw [List.length_take]; omega
  by_cases h1 : j < o
  · rw [List.getElem?_append_left (by omega), List.getElem?_take, if_pos h1, List.getElem?_eq_getElem (show j < bs.length by omega)]
    simp only [Option.map_some]
    unfold progF
    rw [if_neg (by omega)]
  · rw [List.getElem?_append_right (by omega), ho]
    by_cases h2 : j < o + k
    · rw [List.getElem?_append_left (by omega), List.getElem?_take, if_pos (by omega)]
      have hb : j < bs.length := by omega
      have hx : j - o < xs.length := by omega
      rw [List.getElem?_eq_getElem hb, List.getElem?_eq_getElem hx]
      simp only [Option.map_some]
      have h := hf (j - o) hx
      rw [show o + (j - o) = j by omega, List.getElem?_eq_getElem hb, List.getElem?_eq_getElem hx] at h
      simp only [Option.getD_some] at h
      unfold progF
      rw [if_pos (by omega), List.getElem?_eq_getElem hx, Option.getD_some, and_fit h]
    · rw [List.getElem?_append_right (by omega), hl, List.getElem?_drop, show o + k + (j - o - k) = j by omega]
      rcases bs[j]? with _ | b
      · rfl
      · simp only [Option.map_some]
        unfold progF
        rw [if_neg (by omega)]

/-- Other bytes, as many, in the document's flash. -/
theorem RefAt.bytes {w w' : World} {p c e : Nat} {fl : Fl} {S : Nat → Prop} {bs : List UInt8} (h : RefAt w p c e fl) (k : Only S w w') (hp : ¬ S p) (he : ¬ S e) (hb : bs.length = fl.bs.length)
    (hc : Blk w' c 5 (bs.map B8).toArray) : RefAt w' p c e { fl with bs := bs } :=
  ⟨⟨h.ok.s1, h.ok.s2, h.ok.z1, h.ok.z2, h.ok.l1, h.ok.l2, hb.trans h.ok.bl, h.ok.el, h.ok.eb, h.ok.f1, h.ok.f2, h.ok.k1, h.ok.k2⟩, h.fu, k.blk h.hd hp, hc, k.blk h.er he⟩

theorem Try.sizeU8 : (Try.prog.info? 5).map (·.size) = some 1 := by kernel_rfl

theorem rprogram_down (p : Nat) (a : Int) (A : Option Addr) (n cap : Nat) (w : World) (h5 : w.cell? ⟨p, 5, none⟩ = some (.bool true)) :
    Calls Try.prog 25 #[.pointer (some ⟨p, 0, none⟩), .int .i64 a, .slice A n cap] w fun e w' => e = .returned (.int .i64 5) ∧ w = w' := by
  go_enter Try.func25, Try.ntmps25
  go_wp2
  go_ret
  exact ⟨rfl, rfl⟩

set_option maxRecDepth 100000 in
theorem rprogram_out (p c e : Nat) (fl : Fl) (a : Int) (A : Option Addr) (n cap : Nat) (w : World) (hf : RefAt w p c e fl) (hu : fl.up = true) (a2 : a ≤ 9223372036854775807) (hn : n ≤ maxLen)
    (h : a < 0 ∨ ((fl.S * fl.Z : Nat) : Int) < a + n) :
    Calls Try.prog 25 #[.pointer (some ⟨p, 0, none⟩), .int .i64 a, .slice A n cap] w fun e w' => e = .returned (.int .i64 2) ∧ w = w' := by
  have hs := there_no p c (fl.S * fl.Z) a n w (by rw [hf.hd.cell]; simp [Fl.rhdr]) a2 (by unfold maxLen at hn; omega) (by omega)
  have h5 : w.cell? ⟨p, 5, none⟩ = some (.bool false) := by rw [hf.hd.cell]; simp [Fl.rhdr, hu]
  have Hs := Lib.hid hs
  clear hs hf hu h
  go_enter Try.func25, Try.ntmps25
  go_wp2_with fail
  refine Hs.out.mono ?_
  rintro e1 w1 ⟨rfl, rfl⟩
  go_wp2
  go_ret
  exact ⟨rfl, rfl⟩

theorem fit_and {b x : UInt8} (h : x &&& ~~~b = 0) : x &&& b = x := by rw [UInt8.and_comm]; exact and_fit h

set_option maxRecDepth 100000 in
set_option maxHeartbeats 4000000 in
theorem rprogram_whole (p c e at_ n cap : Nat) (fl : Fl) (xs : List UInt8) (A : Option Addr) (w : World) (hf : RefAt w p c e fl) (hu : fl.up = true) (hfu : ¬ fl.fuse = 0) (hs : ByteSl w (Three p c e) A n cap xs)
    (hin : at_ + n ≤ fl.S * fl.Z) (hfit : Fits fl.bs at_ xs) :
    Calls Try.prog 25 #[.pointer (some ⟨p, 0, none⟩), .int .i64 (at_ : Int), .slice A n cap] w fun e1 w' => e1 = .returned (.int .i64 0) ∧
      RefAt w' p c e (fl.prog at_ xs) ∧ Only (Three p c e) w w' := by
  have hsz := hf.ok.sz
  have hnc := hs.2.1
  have hthere := there_yes p c (fl.S * fl.Z) at_ n w (by rw [hf.hd.cell]; simp [Fl.rhdr]) (by omega) hin
  have h5 : w.cell? ⟨p, 5, none⟩ = some (.bool false) := by rw [hf.hd.cell]; simp [Fl.rhdr, hu]
  have h3 : w.cell? ⟨p, 3, none⟩ = some (.slice (some ⟨c, 0, none⟩) (fl.S * fl.Z) (fl.S * fl.Z)) := by rw [hf.hd.cell]; simp [Fl.rhdr]
  obtain ⟨T, hT⟩ : ∃ T, T = fl.S * fl.Z := ⟨_, rfl⟩
  rw [← hT] at h3 hin hsz
  have hbl : fl.bs.length = T := by rw [hf.ok.bl, hT]
  have Hbl := Lib.hid hbl
  have HT := Lib.hid hT
  have Hxl := Lib.hid hs.1
  have Ht := Lib.hid hthere
  have Hu := Lib.hid hu
  have Hfu := Lib.hid hfu
  clear hthere hT hu hbl hfu
  go_enter Try.func25, Try.ntmps25
  go_wp2_with fail
  refine Ht.out.mono ?_
  rintro e1 w1 ⟨rfl, rfl⟩
  go_wp2_with fail
  go_loop [22] (fun i => ∃ k : Nat, k ≤ n ∧ i = .int .i64 (k : Int)) (fun i => n - (intOf i).toNat)
  case atStart => exact ⟨0, Nat.zero_le _, rfl⟩
  case round =>
    obtain ⟨k, hk, rfl⟩ := hrel
    by_cases hlt : k < n
    · obtain ⟨ad, x, rfl, hab, hnS, hx, hxc⟩ := hs.at_ hlt
      have hcl : at_ + k < fl.bs.length := by rw [Hbl.out]; omega
      have hcc : w.cell? ⟨c, at_ + k, none⟩ = some (B8 (fl.bs[at_ + k]?.getD 0)) := by
        rw [hf.ce.cell]
        simp [hcl]
      have hz : (bits .and .u8 ((xs[k]?.getD 0).toNat : Int) ((fl.bs[at_ + k]?.getD 0).toNat : Int) != ((xs[k]?.getD 0).toNat : Int)) = false := by
        rw [b_and, fit_and (hfit k (by rw [Hxl.out]; exact hlt))]; simp
      rw [hx] at hz
      unfold B8 at hxc hcc
      simp only [Option.getD_some] at hz
      generalize fl.bs[at_ + k]?.getD 0 = cb at hz hcc
      clear hs hf hfit hcl hx
      go_wp2
      go_round
      case rel => exact ⟨k + 1, by omega, by go_num⟩
      case measure => simp [intOf]; omega
    · go_wp2_with fail
      refine (whole_any p c e fl w hf Hu.out).mono ?_
      rintro e1 w1 ⟨rfl, hf1, ho1⟩
      rw [decide_eq_false Hfu.out]
      have hs1 : ByteSl w1 (Three p c e) A n cap xs := hs.only ho1 (by intro i _ hi; exact Or.inl hi)
      have g3 : w1.cell? ⟨p, 3, none⟩ = some (.slice (some ⟨c, 0, none⟩) T T) := by rw [hf1.hd.cell]; simp [Fl.rhdr, fl.burn_geo, HT.out]
      have hce := hf1.ce
      rw [fl.burn_geo.2.2.2.1] at hce
      obtain ⟨X, hX⟩ : ∃ X, X = fl.bs.map B8 := ⟨_, rfl⟩
      obtain ⟨Y, hY⟩ : ∃ Y, Y = xs.map B8 := ⟨_, rfl⟩
      rw [← hX] at hce
      have hXl : X.length = T := by rw [hX, List.length_map, Hbl.out]
      have hYl : Y.length = n := by rw [hY, List.length_map, Hxl.out]
      have hY1 : ∀ v ∈ Y, v.oneCell' = true := by
        intro v hv
        rw [hY] at hv
        obtain ⟨b, _, rfl⟩ := List.mem_map.1 hv
        rfl
      have hsrc : 0 < Y.length → ∃ ad, A = some ad ∧ ∀ j v, Y[j]? = some v → w1.cell? (ad.add j) = some v := by
        intro hpos
        obtain ⟨ad, hA, _, _, hc⟩ := hs1.2.2.2 (by omega)
        refine ⟨ad, hA, fun j v hv => ?_⟩
        rw [hY, List.getElem?_map] at hv
        rcases hx : xs[j]? with _ | x
        · rw [hx] at hv; cases hv
        · rw [hx] at hv
          simp at hv
          rw [hc j x hx, hv]
      have hfin : ∀ w2, Blk w2 c 5 (splice X at_ Y).toArray → Only (· = c) w1 w2 → RefAt w2 p c e (fl.prog at_ xs) ∧ Only (Three p c e) w w2 := by
        intro w2 hb ho2
        rw [hX, hY, splice_map] at hb
        have hsp := splice_prog fl.bs xs at_ n hfit (by rw [Hxl.out]; exact Nat.le_refl _) (by rw [Hbl.out, Hxl.out]; exact hin)
        rw [List.take_of_length_le (by rw [Hxl.out]; exact Nat.le_refl _)] at hsp
        rw [hsp, progF_all fl.bs at_ n xs fl.mask (by rw [Hxl.out]; omega)] at hb
        have h1 := hf1.bytes ho2 hf1.pc hf1.cep.symm (by rw [fl.burn_geo.2.2.2.1]; simp) hb
        refine ⟨?_, (ho1.mono (fun i _ hi => Or.inl hi)).trans (ho2.mono (fun i _ hi => Or.inr (Or.inl hi)))⟩
        have hm : fl.many n = n := by unfold Fl.many; rw [if_neg Hfu.out]
        unfold Fl.prog
        rw [Hxl.out, hm]
        exact h1
      have Hfin := Lib.hid hfin
      have Hsrc := Lib.hid hsrc
      have Hce := Lib.hid hce
      have HXl := Lib.hid hXl
      have HYl := Lib.hid hYl
      have HY1 := Lib.hid hY1
      clear hf hs h3 h5 hfin hsrc hce hXl hYl hY1 hX hY hf1 ho1 hs1 hfit
      by_cases hat : T = at_
      · obtain rfl : n = 0 := by omega
        go_wp2_with (with_reducible refine wpList_copy_only rfl (.tmp 48) (.tmp 49) 34 34 rfl 5 Try.underlying34 Try.sizeU8 (some ⟨c, 0, none⟩) A 0 0 0 cap rfl rfl c at_ X 5 Hce.out Y ?c1 ?c2 ?c3 HY1.out ?_)
        case c1 => rw [HYl.out]; rfl
        case c2 => exact fun hp => absurd hp (by rw [HYl.out]; omega)
        case c3 => rw [HYl.out, HXl.out]; exact hin
        intro w2 hb2 ho2
        go_wp2
        go_ret
        exact ⟨rfl, Hfin.out w2 hb2.out ho2⟩
      · have hat2 : ¬ at_ = T := fun h => hat h.symm
        go_wp2_with (with_reducible refine wpList_copy_only rfl (.tmp 48) (.tmp 49) 34 34 rfl 5 Try.underlying34 Try.sizeU8 (some ⟨c, at_, none⟩) A (T - at_) (T - at_) n cap rfl rfl c at_ X 5 Hce.out Y ?c1 ?c2 ?c3 HY1.out ?_)
        case c1 => rw [HYl.out]; simp only [Nat.min_def]; split <;> omega
        case c2 => exact fun hp => Hsrc.out hp
        case c3 => rw [HYl.out, HXl.out]; exact hin
        intro w2 hb2 ho2
        go_wp2
        go_ret
        exact ⟨rfl, Hfin.out w2 hb2.out ho2⟩

end Go.Proofs.Ytaepdmifenkhcaa
