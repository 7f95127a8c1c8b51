/- A commit for which no sector has to be cleaned is done. -/
import Derived.Test.YtnhfmcijadficaaGreatDoorZbk
import Derived.Test.YtnhfmcijadficaaGreatDoorZbn
import Derived.Deep.QuietTactic
import Derived.BigQuiet
namespace Go.Proofs.YtnhfmcijadficaaGreatDoor
set_option maxRecDepth 100000
open Go.RowKit Go.Maps

section
variable {w w' : World} {s mb p c e Z L : Nat} {M : Al Sv} {h : HeadV} {ss : List (Nat × List UInt8)}
theorem Outcome.easy {l : List Ch} {e1 : Ending} (hO : Outcome s mb p c e Z L M h ss l w w' e1) (G : GoodX w s mb p c e Z L M h ss) (href : refuC l (Z - 12) = 0) (h2 : takesB h (roomL l : Int) = false → 2 ≤ (secsOf ss).countP (opensB (L : Int)) ∧ lastQ (secsOf ss) ≠ 4294967295) :
    e1 = .returned (.int .i64 0) ∧ ∃ M' h' ss', GoodX w' s mb p c e Z L M' h' ss' ∧ ss'.length = ss.length ∧ blobsOf (amap Sv.a M') = applyBL (blobsOf (amap Sv.a M)) l ∧ M'.length ≤ M.length + 16 ∧ Only (Mut s mb p c e) w w' := by
  have hr0 := refuC_zero href
  have hX : Srt (blobsOf (amap Sv.a M)) := Srt.amap (Srt.amap G.st.map.sorted _) _
  have hbz := G.fs.bz
  rcases hO with ⟨h9, _⟩ | ⟨_, _, _, htk, PF, KF, h9⟩ | ⟨_, rfl, PF, KF, M', h', ss', k, o, hpl, hG', hss, hX', hM', hl, hor, hh', hs', hkey, hkl, hon, _⟩
  · exact absurd href h9
  · obtain ⟨h3, h4⟩ := h2 htk
    obtain ⟨n, hn⟩ : ∃ n, 4 * ss.length = n + 1 := ⟨4 * ss.length - 1, by omega⟩
    rw [hn] at h9
    obtain ⟨h5, _⟩ := one_round (P := ⟨secsOf ss, h, []⟩) h3 h4 (by have := hr0.2.2.2.2; omega) h9
    cases h5
  · refine ⟨rfl, M', h', ss', hG', hss, ?_, hM', hon⟩
    rw [hX', blobs_applyL, blobs_reSecK KF 0 hX (fun ks hks k hk => by rw [afind_map, Option.isSome_map]; exact (hkey ks hks k hk).2.2)]
end
theorem opens_fresh {S Z L : Nat} (hz : 12 ≤ Z) (hS : 2 ≤ S) : 2 ≤ (secsOf (freshS S Z)).countP (opensB (L : Int)) ∧ lastQ (secsOf (freshS S Z)) ≠ 4294967295 := by
  rw [fresh_count S Z L hz, fresh_last S Z hz]
  exact ⟨hS, by decide⟩
theorem freshS_len (S Z : Nat) : (freshS S Z).length = S := List.length_replicate

/-- A store with one blob. -/
theorem one_blob {M : Al Sv} {k b : List UInt8} (h : blobsOf (amap Sv.a M) = [(k, b)]) : ∃ f : Sv, M = [(k, f)] ∧ f.xs = b := by
  unfold blobsOf amap at h
  rw [List.map_map] at h
  obtain ⟨q, M', rfl, h1, h2⟩ := List.map_eq_cons_iff.1 h
  rw [List.map_eq_nil_iff] at h2
  subst h2
  obtain ⟨k', f⟩ := q
  have h3 : k' = k := congrArg (·.1) h1
  have h4 : f.xs = b := congrArg (·.2) h1
  exact ⟨f, by rw [h3], h4⟩

/-- A change that was just laid. -/
theorem chs_lit {w : World} {S : Nat → Prop} (f : Ch) (hb : ByteSl w S f.A f.n f.cap f.blob ∧ (f.A = none → f.n = 0 ∧ f.cap = 0)) (hS : ¬ S w.heap.size) :
    Chs (w.alloc (.cells #[.bool f.del, .string f.s, .slice f.A f.n f.cap] 37)) S (some ⟨w.heap.size, 0, none⟩) 1 1 [f] := by
  have hB := Blk.new w 37 #[.bool f.del, .string f.s, .slice f.A f.n f.cap]
  refine ⟨rfl, by decide, by decide, fun _ => ⟨_, _, rfl, hB.lt, hS, fun i g hi j hj => ?_⟩, fun g hg => ?_⟩
  · cases i with
    | succ i => simp at hi
    | zero =>
      simp at hi
      subst hi
      have hc := hB.cell j
      simp only [Nat.zero_mul, Nat.zero_add]
      rw [hc]
      have hj3 : j = 0 ∨ j = 1 ∨ j = 2 := by omega
      rcases hj3 with rfl | rfl | rfl <;> rfl
  · rw [List.mem_singleton.1 hg]
    exact ⟨hb.1.only (Only.of_below (S := Empty) ((Below.refl w.heap.size w).alloc (Nat.le_refl _) _)) (fun _ _ h => h.elim), hb.2⟩

end Go.Proofs.YtnhfmcijadficaaGreatDoor

/- Any bytes are programmed at any place of a new flash. -/
namespace Go.Proofs.YtnhfmcijadficaaGreatDoor
set_option maxRecDepth 100000
open Go.RowKit Go.Maps

theorem prog_fresh (p c e S Z L at_ n cap : Nat) (xs : List UInt8) (A : Option Addr) (w : World) (hf : FlashAt w p c e (Fl.fresh S Z L)) (hb : ByteSl w (Three p c e) A n cap xs) (hin : at_ + n ≤ S * Z) :
    Calls Tryz.prog 9 #[.pointer (some ⟨p, 0, none⟩), .int .i64 (at_ : Int), .slice A n cap] w fun e1 w' => e1 = .returned (.int .i64 0) ∧
      (∃ ss, FS w' p c e Z L ss ∧ ss.length = S ∧ ∀ k, k < S → (k * Z + Z ≤ at_ ∨ at_ + n ≤ k * Z) → ss[k]? = some (0, List.replicate Z 255)) ∧ Only (Three p c e) w w' := by
  have hfu : (Fl.fresh S Z L).fuse = -1 := rfl
  have hxl := hb.1
  refine (program_fits p c e at_ n cap _ xs A w hf rfl hb hin ?_).mono fun e1 w' ⟨he, hf2, ho⟩ => ⟨?_, ⟨(List.range S).map fun k => (0, secB ((Fl.fresh S Z L).prog at_ xs).bs k Z), ⟨_, hf2, ?_⟩, by simp, ?_⟩, ho⟩
  · intro j hj
    have h1 : ((Fl.fresh S Z L).bs[at_ + j]?).getD 0 = 255 := by
      show ((List.replicate (S * Z) 255)[at_ + j]?).getD 0 = 255
      rw [List.getElem?_replicate, if_pos (by omega)]
      rfl
    rw [h1]
    exact and_none _
  · rw [he, code_none hfu]
  · unfold Fl.prog
    rw [burn_none hfu, many_none hfu]
    refine ⟨rfl, hfu, by simp; rfl, rfl, rfl, ?_⟩
    intro k m ys hk
    rw [List.getElem?_map] at hk
    by_cases hlt : k < S
    · rw [List.getElem?_range hlt] at hk
      cases hk
      refine ⟨?_, rfl⟩
      show (List.replicate S 0)[k]? = some 0
      rw [List.getElem?_replicate, if_pos hlt]
    · rw [List.getElem?_eq_none (by simp; omega)] at hk
      cases hk
  · intro k hk hfar
    rw [List.getElem?_map, List.getElem?_range hk]
    show some (0, secB ((Fl.fresh S Z L).prog at_ xs).bs k Z) = _
    congr 2
    have hkz : k * Z + Z ≤ S * Z := kz_le hk
    unfold Fl.prog
    rw [burn_none hfu, many_none hfu]
    apply List.ext_getElem?
    intro i
    by_cases hi : i < Z
    · rw [secB_get _ _ _ _ hi, List.getElem?_mapIdx]
      have h1 : (Fl.fresh S Z L).bs[k * Z + i]? = some 255 := by
        show (List.replicate (S * Z) 255)[k * Z + i]? = some 255
        rw [List.getElem?_replicate, if_pos (by omega)]
      rw [h1, List.getElem?_replicate, if_pos hi]
      simp only [Option.map_some]
      unfold tornF
      rw [if_neg (by omega), if_neg (by omega)]
    · unfold secB
      rw [List.getElem?_eq_none (by rw [List.length_take]; omega), List.getElem?_eq_none (by simp; omega)]

theorem blank_opens {Z L : Nat} (h : 12 ≤ Z) : opensB (L : Int) (secOf (0, List.replicate Z 255)) = true := by
  have h1 := (opens_fresh (S := 2) (Z := Z) (L := L) h (by decide)).1
  have h2 : secsOf (freshS 2 Z) = [secOf (0, List.replicate Z 255), secOf (0, List.replicate Z 255)] := rfl
  rw [h2] at h1
  cases h3 : opensB (L : Int) (secOf (0, List.replicate Z 255)) with
  | true => rfl
  | false =>
    simp [List.countP_cons, h3] at h1

theorem count_two {α : Type} {P : α → Bool} {l : List α} {i j : Nat} {a b : α} (hij : i < j) (ha : l[i]? = some a) (hb : l[j]? = some b) (h1 : P a = true) (h2 : P b = true) : 2 ≤ l.countP P := by
  have e : l = l.take j ++ l.drop j := (List.take_append_drop j l).symm
  rw [e, List.countP_append]
  have h3 : a ∈ l.take j := List.mem_of_getElem? (i := i) (by rw [List.getElem?_take, if_pos hij]; exact ha)
  have h4 : b ∈ l.drop j := List.mem_of_getElem? (i := 0) (by rw [List.getElem?_drop, Nat.add_zero]; exact hb)
  have h5 : 0 < (l.take j).countP P := List.countP_pos_iff.2 ⟨a, h3, h1⟩
  have h6 : 0 < (l.drop j).countP P := List.countP_pos_iff.2 ⟨b, h4, h2⟩
  omega

/-- Behind at most 400 bytes at one of the first thousand places two of six sectors are blank. -/
theorem odd_free {ss : List (Nat × List UInt8)} {at_ n L : Nat} (h : ∀ k, k < 6 → (k * 256 + 256 ≤ at_ ∨ at_ + n ≤ k * 256) → ss[k]? = some (0, List.replicate 256 255)) (ha : at_ ≤ 1000) (hn : n ≤ 400) : 2 ≤ (secsOf ss).countP (opensB (L : Int)) := by
  have ho := blank_opens (Z := 256) (L := L) (by decide)
  have hs : ∀ k : Nat, ss[k]? = some (0, List.replicate 256 255) → (secsOf ss)[k]? = some (secOf (0, List.replicate 256 255)) := fun k hk => by
    unfold secsOf
    rw [List.getElem?_map, hk]
    rfl
  by_cases h5 : 512 ≤ at_
  · exact count_two (i := 0) (j := 1) (by decide) (hs 0 (h 0 (by decide) (by omega))) (hs 1 (h 1 (by decide) (by omega))) ho ho
  · exact count_two (i := 4) (j := 5) (by decide) (hs 4 (h 4 (by decide) (by omega))) (hs 5 (h 5 (by decide) (by omega))) ho ho

end Go.Proofs.YtnhfmcijadficaaGreatDoor

/- The document's pairs: rows of keys and blobs; the walks over law 08's pairs, over the document's Live and Same. -/
namespace Go.Proofs.YtnhfmcijadficaaGreatDoor
set_option maxRecDepth 100000
open Go.RowKit Go.Maps

abbrev Pr := List UInt8 × List UInt8
def pairC (q : Pr) : List Value := [encStr q.1, encStr q.2]
theorem pair_len (q : Pr) : (pairC q).length = 2 := rfl
theorem pair_one (q : Pr) : ∀ v ∈ pairC q, v.oneCell' = true := by
  intro v hv
  simp only [pairC, List.mem_cons, List.not_mem_nil, or_false] at hv
  rcases hv with rfl | rfl <;> rfl
theorem Tryz.infoPair : (Tryz.prog.info? 99).map (fun i => (i.zero, i.size, i.bytes)) = some (some (.agg #[.string ⟨#[]⟩, .string ⟨#[]⟩]), 2, 32) := by kernel_rfl
abbrev Prs := GotR pairC 2 99
theorem wpList_append_prs {ops : Array Oper} {rest : List Oper} {q : Oper} {u : Act} {w : World} {S : Nat → Prop} {Q : Exit → Act → World → Prop} (hgd : q.guard = none) (s x : Operand) (hq : q.op = .call { callee := .builtin .append, args := #[s, x], argTypes := #[34, 34] })
    (base : Nat) (B : Option Addr) (m0 c0 : Nat) (zs : List Pr) (hs : u.eval s = .slice B m0 c0) (hown : Prs base w B m0 c0 zs) (A : Option Addr) (m c : Nat) (l : List Pr)
    (hx : u.eval x = .slice A m c) (hB : RowSl pairC 2 w S A m c l) (hn : A = none → m = 0 ∧ c = 0) (hm : m0 + m ≤ 16777216) (hbase : base ≤ w.heap.size)
    (h : ∀ A' c' w', Prs base w' A' (m0 + m) c' (zs ++ l) → w.grownBy w' (Value.slice B m0 c0).ownBlock → (∀ g, (Value.slice B m0 c0).ownBlock = some g → base ≤ g) → wpList Tryz.prog ops Q rest (u.put q.dst (.slice A' (m0 + m) c')) w') : wpList Tryz.prog ops Q (q :: rest) u w :=
  wpList_append_rows pair_len pair_one (by decide) 34 99 _ 32 Tryz.underlying34 Tryz.infoPair (by simp [Value.cells]) (by decide) hgd s x hq base B m0 c0 zs hs hown A m c l hx hB hn hm hbase (fun A' c' w' h1 h2 h3 _ => h A' c' w' h1 h2 h3)
theorem pair_lit (q : Pr) (w : World) : RowSl pairC 2 (w.alloc (.cells #[encStr q.1, encStr q.2] 99)) Empty (some ⟨w.heap.size, 0, none⟩) 1 1 [q] :=
  RowSl.lit pair_len w Empty 99 [q] 1 [encStr q.1, encStr q.2] (by simp [pairC]) rfl (by decide) (fun h => h)

theorem get_enc (s mb p c e : Nat) (M : Al Sv) (h : HeadV) (d : Bool) (k : List UInt8) (w : World) (hS : StoreAt w s mb p c e M h d) (hk : k.length ≤ maxLen) (hn : (svAt M k).n ≤ 16777216) :
    Calls Tryz.prog 28 #[.pointer (some ⟨s, 0, none⟩), encStr k] w fun e1 w' => (∃ A' cap', e1 = .returned (.tuple #[.slice A' (svAt M k).n cap', .bool (afind M k).isSome]) ∧ Got w.heap.size w' A' (svAt M k).n cap' (svAt M k).xs) ∧ Below w.heap.size w w' :=
  get_any s mb p c e M h d ⟨k.toArray⟩ Empty w hS (by simpa [ByteArray.size] using hk) (by simpa using hn)
theorem blobs_at {M : Al Sv} (h : M.Pairwise (fun p q => bytesBefore p.1 q.1 = true)) {q : List UInt8 × Sv} (hq : q ∈ M) : (svAt M q.1).xs = q.2.xs ∧ (svAt M q.1).n = q.2.n := by rw [svAt_v (afind_of_mem h hq)]; exact ⟨rfl, rfl⟩

set_option maxHeartbeats 4000000 in
theorem pairs_any (s mb p c e Z L : Nat) (ss : List (Nat × List UInt8)) (M : Al Sv) (h : HeadV) (w : World) (hG : GoodX w s mb p c e Z L M h ss) (hM : M.length ≤ 1048576) :
    Calls Tryz.prog 11 #[.pointer (some ⟨s, 0, none⟩)] w fun e1 w' => (∃ A n cap, e1 = .returned (.slice A n cap) ∧ Prs w.heap.size w' A n cap (blobsOf (amap Sv.a M))) ∧ Below w.heap.size w w' := by
  have Hkeys := Lib.hid (keys_any s mb p c e M h false ⟨#[]⟩ w hG.st hM)
  have HG := Lib.hid hG
  have hbl : blobsOf (amap Sv.a M) = M.map fun q => (q.1, q.2.xs) := by unfold blobsOf amap; rw [List.map_map]; rfl
  have Hbl := Lib.hid hbl
  have Hat : Hid (∀ (i : Nat) (q : List UInt8 × Sv), M[i]? = some q → q.1.length ≤ 64 ∧ (svAt M q.1).n ≤ 4096 ∧ (svAt M q.1).xs = q.2.xs) := Lib.hid (fun i q hq => by
    have h1 := hG.fair q (List.mem_of_getElem? hq)
    have h2 := blobs_at hG.st.map.sorted (List.mem_of_getElem? hq)
    exact ⟨h1.1, by rw [h2.2]; exact h1.2, h2.1⟩)
  clear hG hbl
  go_enter Tryz.func11, Tryz.ntmps11
  go_wp2_with fail
  refine Hkeys.out.mono ?_
  rintro e1 w1 ⟨⟨A, n, cap, rfl, hg1⟩, hb1⟩
  rw [show keysOf (⟨#[]⟩ : ByteArray).data.toList M = M.map (·.1) from keysOf_nil M] at hg1
  have hln : M.length = n := by have := hg1.row.1; rwa [List.length_map] at this
  have HR := Lib.hid hg1.row
  have Hb1 := Lib.hid hb1
  have hncap : n ≤ cap := hg1.row.2.1
  have hcap2 : cap ≤ 9223372036854775807 := by have := hg1.row.2.2.1; unfold maxLen at this; omega
  have Hs1 := Lib.hid hb1.size
  have hn1 : n ≤ 1048576 := by omega
  clear hg1 hb1 Hkeys
  go_wp2_with fail
  go_loopw [3, 11] (fun r v wr => ∃ (i : Nat) (A3 : Option Addr) (c3 : Nat), i ≤ n ∧ v = .int .i64 (i : Int) ∧ r = .slice A3 i c3 ∧ Hid (Prs w1.heap.size wr A3 i c3 ((M.take i).map fun q => (q.1, q.2.xs))) ∧ Hid (Below w1.heap.size w1 wr)) (fun _ v _ => n - (intOf v).toNat)
  case atStart => exact ⟨0, none, 0, Nat.zero_le _, rfl, rfl, Lib.hid (GotR.nil_ _ _ _ _ _), Lib.hid (Below.refl _ _)⟩
  case round =>
    obtain ⟨i, A3, c3, hi, rfl, rfl, HP, HB⟩ := hrel
    by_cases hlt : i < n
    · obtain ⟨q, hq⟩ : ∃ q, M[i]? = some q := ⟨_, List.getElem?_eq_getElem (by omega)⟩
      obtain ⟨b, o, k, hA, hbl, -, hk, hc⟩ := (HR.out.below HB.out).at_ hlt
      have hkq : k = q.1 := by
        rw [List.getElem?_map, hq] at hk
        exact (Option.some.inj hk).symm
      subst hkq
      have c0 := hc 0 (by omega)
      simp only [strC, Nat.mul_one, Nat.add_zero, List.getElem?_cons_zero] at c0
      have htk := take_snoc M i q hq
      have Htk : Hid ((M.take (i + 1)).map (fun q => (q.1, q.2.xs)) = (M.take i).map (fun q => (q.1, q.2.xs)) ++ [(q.1, q.2.xs)]) := Lib.hid (by rw [htk, List.map_append]; rfl)
      have hat := Hat.out i q hq
      have Hg := Lib.hid (fun W (hW : Below w.heap.size w W) => get_enc s mb p c e M h false q.1 W (HG.out.st.below hW) (by unfold maxLen; omega) (by omega))
      obtain ⟨xs, hxs⟩ : ∃ xs, xs = q.2.xs := ⟨_, rfl⟩
      obtain ⟨kq, hkq⟩ : ∃ kq, kq = q.1 := ⟨_, rfl⟩
      rw [hat.2.2] at Hg
      rw [← hxs, ← hkq] at Hg
      rw [← hxs, ← hkq] at Htk
      rw [← hkq] at c0
      have hHB := HB.out.size
      have HBw := Lib.hid (Hb1.out.trans (HB.out.mono Hb1.out.size))
      subst hA
      clear hc hk hq htk hat hxs hkq
      go_wp2_with fail
      with_reducible refine (Hg.out wr HBw.out).mono ?_
      rintro e2 w2 ⟨⟨A2, c2, rfl, hgot⟩, hb2⟩
      have hcv := conv_bytes hgot.bytes
      have HP2 := Lib.hid (HP.out.below pair_len hb2)
      have HB2 := Lib.hid (HB.out.trans (hb2.mono hHB))
      have hs2 : w1.heap.size ≤ w2.heap.size := HB2.out.size
      have hrow : RowSl pairC 2 (w2.alloc (.cells #[encStr kq, .string (strB xs)] 99)) Empty (some ⟨w2.heap.size, 0, none⟩) 1 1 [(kq, xs)] := pair_lit (kq, xs) w2
      have Hrow := Lib.hid hrow
      have HP3 := Lib.hid (HP2.out.alloc pair_len (.cells #[encStr kq, .string (strB xs)] 99))
      have HB3 := Lib.hid (HB2.out.alloc hs2 (.cells #[encStr kq, .string (strB xs)] 99))
      clear hgot hb2 Hg hrow
      go_wp2_with (at_builtin; refine wpList_append_prs rfl _ _ rfl w1.heap.size A3 i c3 ((M.take i).map fun q => (q.1, q.2.xs)) rfl HP3.out _ 1 1 _ rfl Hrow.out (fun h => by cases h) (by omega) (by simp; omega) ?_; intro A4 c4 w4 hg4 hgr4 hr4)
      have HB4 := Lib.hid (below_gotR HB3.out (by simp; omega) hgr4 hr4 (Nat.le_refl _))
      have HP4 := Lib.hid hg4
      clear hg4 hgr4 hr4
      go_roundw
      case rel => exact ⟨i + 1, A4, c4, by omega, by simp, rfl, by rw [Htk.out]; exact HP4, HB4⟩
      case measure => simp [intOf]; omega
    · have hin : i = n := by omega
      subst hin
      have ht : M.take i = M := List.take_of_length_le (by omega)
      rw [ht, ← Hbl.out] at HP
      go_wp2_with fail
      go_ret
      exact ⟨⟨A3, i, c3, rfl, HP.out.lower Hs1.out⟩, Hb1.out.trans (HB.out.mono Hs1.out)⟩

/-- What pairs count for. -/
def liveB (Y : AB) : Nat := (Y.map fun q => q.1.length + q.2.length + 32).sum
theorem liveB_snoc (Y : AB) (q : Pr) : liveB (Y ++ [q]) = liveB Y + (q.1.length + q.2.length + 32) := by simp [liveB]
set_option maxHeartbeats 4000000 in
/-- Rows that read the same are the same. -/
theorem refSame_yes (A A2 : Option Addr) (n m cap cap2 : Nat) (Y : AB) (w : World) (hR : RowSl pairC 2 w Empty A n cap Y) (hR2 : RowSl pairC 2 w Empty A2 m cap2 Y) (hn : n ≤ 1048576) :
    Calls Tryz.prog 13 #[.slice A n cap, .slice A2 m cap2] w fun e1 w' => e1 = .returned (.bool true) ∧ Below w.heap.size w w' := by
  have hln := hR.1
  have hlm := hR2.1
  have hmn : m = n := by omega
  subst hmn
  have HR := Lib.hid hR
  have HR2 := Lib.hid hR2
  have hncap : m ≤ cap := hR.2.1
  have hncap2 : m ≤ cap2 := hR2.2.1
  have hcap3 : cap ≤ 9223372036854775807 := by have := hR.2.2.1; unfold maxLen at this; omega
  have hcap4 : cap2 ≤ 9223372036854775807 := by have := hR2.2.2.1; unfold maxLen at this; omega
  clear hR hR2
  go_enter Tryz.func13, Tryz.ntmps13
  go_wp2_with fail
  go_loopw [13] (fun v wr => ∃ i : Nat, i ≤ m ∧ v = .int .i64 (i : Int) ∧ Hid (Below w.heap.size w wr)) (fun v _ => m - (intOf v).toNat)
  case atStart => exact ⟨0, Nat.zero_le _, rfl, Lib.hid (Below.refl _ _)⟩
  case round =>
    obtain ⟨i, hi, rfl, HB⟩ := hrel
    by_cases hlt : i < m
    · obtain ⟨b, o, q, hA, hbl, -, hk, hc⟩ := (HR.out.below HB.out).at_ hlt
      obtain ⟨b2, o2, q2, hA2, hbl2, -, hk2, hc2⟩ := (HR2.out.below HB.out).at_ hlt
      have hqq : q2 = q := by rw [hk] at hk2; exact (Option.some.inj hk2).symm
      subst hqq
      have c0 := hc 0 (by omega)
      have c1 := hc 1 (by omega)
      have d0 := hc2 0 (by omega)
      have d1 := hc2 1 (by omega)
      obtain ⟨k, xs⟩ := q2
      simp only [pairC, List.getElem?_cons_zero, List.getElem?_cons_succ, Nat.add_zero, encStr] at c0 c1 d0 d1
      obtain ⟨sk, hsk2⟩ : ∃ sk : ByteArray, sk = ⟨k.toArray⟩ := ⟨_, rfl⟩
      obtain ⟨sx, hsx2⟩ : ∃ sx : ByteArray, sx = ⟨xs.toArray⟩ := ⟨_, rfl⟩
      rw [← hsk2] at c0 d0
      rw [← hsx2] at c1 d1
      have hiI : (i : Int) < (m : Int) := by omega
      subst hA
      subst hA2
      clear hc hk hc2 hk2 hsk2 hsx2
      go_wp2_with fail
      go_quiet (fail)
      have HBq := Lib.hid (HB.out.drewN nq)
      go_wp2_with fail
      go_roundw
      case rel => exact ⟨i + 1, by omega, by simp, HBq⟩
      case measure => simp [intOf]; omega
    · have hin : i = m := by omega
      subst hin
      go_wp2_with fail
      go_ret
      exact ⟨rfl, HB.out⟩

end Go.Proofs.YtnhfmcijadficaaGreatDoor
