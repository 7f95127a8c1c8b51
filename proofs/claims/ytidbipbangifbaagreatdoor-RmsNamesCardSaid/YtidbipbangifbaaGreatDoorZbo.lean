/- What Open, Drop and Names do to a store of which only the suite "app" has record stores, all of them empty (layer 9). -/
import Derived.Test.YtidbipbangifbaaGreatDoorZbn
import Derived.Test.YtidbipbangifbaaGreatDoorZae
namespace Go.Proofs.YtidbipbangifbaaGreatDoor
set_option maxRecDepth 100000
open Go.RowKit

/-- The suite's record stores are H; so many steps were done. -/
def St9 (s mb p c er : Nat) (H : List (List UInt8)) (k : Nat) (w : World) : Prop :=
  ∃ M h ss B, GoodR w s mb p c er 400 100000 M h ss B ∧ ss.length = 8 ∧ B ≤ 64 * (k : Int) ∧ NSt H (blobsOf (amap Sv.a M))
theorem St9.below {s mb p c er k : Nat} {H : List (List UInt8)} {w w' : World} (h : St9 s mb p c er H k w) (b : Below w.heap.size w w') : St9 s mb p c er H k w' := by
  obtain ⟨M, h', ss, B, hG, h1, h2, h3⟩ := h
  exact ⟨M, h', ss, B, hG.below b, h1, h2, h3⟩
theorem St9.start {s mb p c er : Nat} {w : World} (h : GoodR w s mb p c er 400 100000 [] ⟨0, 0, 0, 0⟩ (freshS 8 400) 0) : St9 s mb p c er [] 0 w := ⟨_, _, _, _, h, freshS_len _ _, by omega, NSt.nil⟩

/-- The code that Open answers. -/
def openC (H : List (List UInt8)) (x : List UInt8) : Int := if nameB x = true then (if x ∈ H then 0 else if 8 ≤ H.length then 9 else 0) else 13
def openH (H : List (List UInt8)) (x : List UInt8) : List (List UInt8) := if nameB x = true ∧ x ∉ H ∧ H.length < 8 then H ++ [x] else H
/-- A record store, whatever it is, and a code. -/
def RecE (code : Int) (e : Ending) : Prop := ∃ (a b : Int) (A : Option Addr) (n c : Nat), e = .returned (.tuple #[.agg #[.int .u32 a, .int .u32 b, .slice A n c], .int .i64 code])
theorem RecE.some_ {base : Nat} {r : RcP} {er : Int} {e : Ending} {w' : World} (h : RecOut base (some r) er e w') : RecE 0 e := by
  obtain ⟨A, n, c, l, h, _⟩ := h
  exact ⟨_, _, A, n, c, h⟩
theorem RecE.none_ {base : Nat} {er : Int} {e : Ending} {w' : World} (h : RecOut base none er e w') : RecE er e := ⟨_, _, none, 0, 0, h⟩

section
variable {s mb p c er k : Nat} {H : List (List UInt8)} {w w1 w2 : World}
theorem keyApp_len {x : List UInt8} (hx : nameB x = true) : 1 ≤ (keyL appB x).length ∧ (keyL appB x).length ≤ 22 := by
  have h3 := name_len hx
  have h4 : (keyL appB x).length = 6 + x.length := by rw [keyL_len]; rfl
  omega
theorem openA (hst : St9 s mb p c er H k w) (A : Apart w1 w2 s mb p c er) (h0 : 0 < w1.heap.size) (hw : w.heap.size ≠ 0) (x : List UInt8) (hx : x.length ≤ 1048576) (hk : k ≤ 100) :
    Calls Tryz.prog 8 #[.pointer (some ⟨s, 0, none⟩), .string (strB appB), .string (strB x), .bool true] w fun e w' => RecE (openC H x) e ∧ St9 s mb p c er (openH H x) (k + 1) w' ∧ Only (Mut s mb p c er) w w' := by
  obtain ⟨M, h, ss, B, hG, hss, hB, hN⟩ := hst
  have hlM : M.length = H.length := by rw [← len_blobs, hN.len]
  have hH := hN.le
  refine (rmOpen_any s mb p c er 400 100000 M h ss B appB x true w hG (fun hlt hst => ?_) hw (by omega) hG.g.sizes.1 hG.g.sizes.2 (by decide) hx).mono fun e w' ho => ?_
  · have hx : nameB x = true := by
      rw [hN.stored x] at hst
      by_cases hx : nameB x = true
      · exact hx
      · rw [if_neg hx] at hst; cases hst
    have hkl := keyApp_len hx
    have hl := hN.live
    rw [hN.names] at hlt
    refine room_of (by omega) A.three (A.zero h0) (by omega) (by omega) ⟨hkl.1, by omega⟩ (by show rc0.length ≤ 60; rw [rc0_len]; omega) (by omega) ?_ (by omega) rfl
    show 4 * (liveY (blobsOf (amap Sv.a M)) + ((keyL appB x).length + rc0.length + 32)) ≤ _
    rw [hss, rc0_len]
    omega
  · have keep : ∀ {w'}, Below w.heap.size w w' → openH H x = H → St9 s mb p c er (openH H x) (k + 1) w' ∧ Only (Mut s mb p c er) w w' := fun hb he => by
      rw [he]
      exact ⟨⟨M, h, ss, B, hG.below hb, hss, by omega, hN⟩, Only.of_below hb⟩
    rcases ho with ⟨hq, hr, hb⟩ | ⟨hq, -, h8, rfl, hb⟩ | ⟨hq, -, h8, rfl, M', h', ss', hG', hss', hY', -, hm⟩
    · rw [hN.stored x] at hq hr
      by_cases hx : nameB x = true
      · rw [if_pos hx] at hq hr
        by_cases hm : x ∈ H
        · rw [if_pos hm] at hr
          exact ⟨by unfold openC; rw [if_pos hx, if_pos hm]; exact RecE.some_ hr, keep hb (by unfold openH; rw [if_neg (fun h => h.2.1 hm)])⟩
        · rw [if_neg hm] at hq
          exact absurd ⟨rfl, rfl⟩ hq
      · rw [if_neg hx] at hr
        exact ⟨by unfold openC; rw [if_neg hx]; exact RecE.none_ hr, keep hb (by unfold openH; rw [if_neg (fun h => hx h.1)])⟩
    · rw [hN.stored x] at hq
      rw [hN.names] at h8
      by_cases hx : nameB x = true
      · rw [if_pos hx] at hq
        by_cases hm : x ∈ H
        · rw [if_pos hm] at hq; cases hq
        · exact ⟨by unfold openC; rw [if_pos hx, if_neg hm, if_pos h8]; exact ⟨_, _, _, _, _, rfl⟩, keep hb (by unfold openH; rw [if_neg (fun h => by have := h.2.2; omega)])⟩
      · rw [if_neg hx] at hq; cases hq
    · rw [hN.stored x] at hq
      rw [hN.names] at h8
      by_cases hx : nameB x = true
      · rw [if_pos hx] at hq
        by_cases hmH : x ∈ H
        · rw [if_pos hmH] at hq; cases hq
        · refine ⟨by unfold openC; rw [if_pos hx, if_neg hmH, if_neg (by omega)]; exact ⟨_, _, _, _, _, rfl⟩, ?_, hm⟩
          unfold openH
          rw [if_pos ⟨hx, hmH, h8⟩]
          refine ⟨M', h', ss', _, hG', by omega, by rw [hss]; omega, ?_⟩
          rw [hY']
          exact hN.put hmH hx h8
      · rw [if_neg hx] at hq; cases hq

set_option maxHeartbeats 2000000 in
theorem raw_bad (s : Nat) (x : List UInt8) (hx : nameB x = false) (hl : x.length ≤ 9223372036854775807) (w : World) :
    Calls Tryz.prog 41 #[.pointer (some ⟨s, 0, none⟩), .string (strB appB), .string (strB x)] w fun e w' => e = .returned (.tuple #[.slice none 0 0, .int .i64 13]) ∧ Below w.heap.size w w' := by
  have H1 := Lib.hid (isName_any appB w (by decide))
  have H2 : Hid (∀ W, Calls Tryz.prog 44 #[.string (strB x)] W fun e w' => e = .returned (.bool false) ∧ Below W.heap.size W w') := Lib.hid (fun W => by have h := isName_any x W hl; rwa [hx] at h)
  have hA : nameB appB = true := by decide
  rw [hA] at H1
  clear hA hx hl
  go_enter Tryz.func41, Tryz.ntmps41
  go_wp2_with fail
  refine H1.out.mono ?_
  rintro e w1 ⟨rfl, hb1⟩
  have HB1 := Lib.hid hb1
  clear hb1 H1
  go_wp2_with fail
  refine (H2.out _).mono ?_
  rintro e w2 ⟨rfl, hb2⟩
  have HB2 := Lib.hid (HB1.out.trans (hb2.mono HB1.out.size))
  clear hb2 H2
  go_wp2
  go_ret2
  exact ⟨rfl, HB2.out⟩
theorem drop_bad (s : Nat) (x : List UInt8) (hx : nameB x = false) (hl : x.length ≤ 9223372036854775807) (w : World) :
    Calls Tryz.prog 18 #[.pointer (some ⟨s, 0, none⟩), .string (strB appB), .string (strB x)] w fun e w' => e = .returned (.int .i64 13) ∧ Below w.heap.size w w' := by
  have H1 := Lib.hid (raw_bad s x hx hl w)
  clear hx hl
  go_enter Tryz.func18, Tryz.ntmps18
  go_wp2_with fail
  refine H1.out.mono ?_
  rintro e w1 ⟨rfl, hb1⟩
  have HB1 := Lib.hid hb1
  clear hb1 H1
  go_wp2
  go_ret
  exact ⟨rfl, HB1.out⟩

/-- The code that Drop answers. -/
def dropC (H : List (List UInt8)) (x : List UInt8) : Int := if nameB x = true then (if x ∈ H then 0 else 11) else 13
def dropH (H : List (List UInt8)) (x : List UInt8) : List (List UInt8) := H.filter (fun m => decide (m ≠ x))
theorem dropH_out {x : List UInt8} (h : x ∉ H) : dropH H x = H := List.filter_eq_self.2 (fun m hm => decide_eq_true (fun e => h (e ▸ hm)))
theorem dropA (hst : St9 s mb p c er H k w) (A : Apart w1 w2 s mb p c er) (h0 : 0 < w1.heap.size) (x : List UInt8) (hx : x.length ≤ 9223372036854775807) (hk : k ≤ 100) :
    Calls Tryz.prog 18 #[.pointer (some ⟨s, 0, none⟩), .string (strB appB), .string (strB x)] w fun e w' => e = .returned (.int .i64 (dropC H x)) ∧ St9 s mb p c er (dropH H x) (k + 1) w' ∧ Only (Mut s mb p c er) w w' := by
  obtain ⟨M, h, ss, B, hG, hss, hB, hN⟩ := hst
  cases hn : nameB x with
  | false =>
    have hno : x ∉ H := fun h => by rw [hN.name x h] at hn; cases hn
    refine (drop_bad s x hn hx w).mono fun e w' ⟨he, hb⟩ => ?_
    unfold dropC
    rw [if_neg (by rw [hn]; decide), dropH_out hno]
    exact ⟨he, ⟨M, h, ss, B, hG.below hb, hss, by omega, hN⟩, Only.of_below hb⟩
  | true =>
    have hlM : M.length = H.length := by rw [← len_blobs, hN.len]
    have hH := hN.le
    have hkl := keyApp_len hn
    have hl := hN.live
    have hxl := name_len hn
    refine (rmDrop_room s mb p c er 400 100000 M h ss B appB x w hG (fun _ => roomD_of (by omega) A.three (A.zero h0) (by omega) (by omega) ⟨hkl.1, by omega⟩ (by omega) (by rw [hss]; omega) (by omega) rfl) (by decide) (by omega)).mono fun e w' ⟨he, hd⟩ => ?_
    have hraw := hN.raw x
    rw [if_pos hn] at hraw
    unfold dropC
    rw [if_pos hn]
    by_cases hm : x ∈ H
    · rw [if_pos hm] at hraw ⊢
      rw [hraw] at he hd
      rcases hd with ⟨h1, _⟩ | ⟨_, M', h', ss', hG', hss', hY', -, hmt⟩
      · exact absurd rfl h1
      · refine ⟨he, ⟨M', h', ss', _, hG', by omega, by rw [hss]; omega, ?_⟩, hmt⟩
        rw [hY']
        exact hN.del
    · rw [if_neg hm] at hraw ⊢
      rw [hraw] at he hd
      rcases hd with ⟨_, hb⟩ | ⟨h1, _⟩
      · rw [dropH_out hm]
        exact ⟨he, ⟨M, h, ss, B, hG.below hb, hss, by omega, hN⟩, Only.of_below hb⟩
      · cases h1

/-- Whatever suite's record store is opened last. -/
theorem openL (hst : St9 s mb p c er H k w) (A : Apart w1 w2 s mb p c er) (h0 : 0 < w1.heap.size) (hw : w.heap.size ≠ 0) (su : List UInt8) (hx : su.length ≤ 100) (hk : k ≤ 100) :
    Calls Tryz.prog 8 #[.pointer (some ⟨s, 0, none⟩), .string (strB su), .string (strB [120]), .bool true] w fun e w' => ∃ code : Int, RecE code e ∧ ((nameB su = false ∧ code = 13) ∨ (nameB su = true ∧ (code = 0 ∨ code = 9))) ∧
      (∃ M h, StoreAt w' s mb p c er M h false ∧ M.length ≤ 1048576 ∧ (∀ q ∈ M, q.1.length ≤ 64) ∧ (namesR appB M).length = H.length + (if su = appB ∧ code = 0 ∧ [120] ∉ H then 1 else 0)) ∧ Only (Mut s mb p c er) w w' := by
  by_cases hsu : su = appB
  · subst hsu
    refine (openA hst A h0 hw [120] (by decide) hk).mono fun e w' ⟨hr, ⟨M, h, ss, B, hG, hss, hB, hN⟩, hm⟩ => ?_
    have hx1 : nameB [120] = true := by decide
    have hlM : M.length = (openH H [120]).length := by rw [← len_blobs, hN.len]
    have hle := hN.le
    refine ⟨_, hr, .inr ⟨by decide, ?_⟩, ⟨M, h, hG.g.st, by omega, fun q hq => (hG.g.at_ hq).1, ?_⟩, hm⟩
    · unfold openC
      rw [if_pos hx1]
      split
      · exact .inl rfl
      · split
        · exact .inr rfl
        · exact .inl rfl
    · rw [hN.names]
      unfold openH openC
      rw [if_pos hx1]
      by_cases hmH : [120] ∈ H
      · rw [if_neg (fun h => h.2.1 hmH), if_pos hmH, if_neg (fun h => h.2.2 hmH), Nat.add_zero]
      · by_cases h8 : 8 ≤ H.length
        · rw [if_neg (fun h => by have := h.2.2; omega), if_neg hmH, if_pos h8, if_neg (fun h => by have := h.2.1; omega), Nat.add_zero]
        · rw [if_pos ⟨hx1, hmH, by omega⟩, if_neg hmH, if_neg h8, if_pos ⟨rfl, rfl, hmH⟩, List.length_append]
          rfl
  · obtain ⟨M, h, ss, B, hG, hss, hB, hN⟩ := hst
    have hlM : M.length = H.length := by rw [← len_blobs, hN.len]
    have hH := hN.le
    have hl := hN.live
    have hif : ∀ code : Int, (if su = appB ∧ code = 0 ∧ [120] ∉ H then 1 else 0) = 0 := fun code => if_neg (fun h => hsu h.1)
    have hst : storedQ su [120] M = if nameB su = true then (none, 11) else (none, 13) := by
      unfold storedQ
      by_cases hs : nameB su = true
      · have hf : afind (blobsOf (amap Sv.a M)) (keyL su [120]) = none := by
          cases hf : afind (blobsOf (amap Sv.a M)) (keyL su [120]) with
          | none => rfl
          | some b =>
            exfalso
            have h1 := afind_mem hf
            have h2 : keyL su [120] ∈ H.map (keyL appB) := hN.perm.mem_iff.1 (List.mem_map.2 ⟨_, h1, rfl⟩)
            obtain ⟨m, hm, he⟩ := List.mem_map.1 h2
            refine hsu (pre_app hs [120] ?_)
            rw [← he]
            unfold preB
            rw [keyL_app, keyL_app]
            simp
        rw [rawQ_blobs hs (by decide), hf, if_pos hs]
        rfl
      · have hr : rawQ su [120] M = ([], 13) := by unfold rawQ; rw [if_neg (fun h => hs h.1)]
        rw [hr, if_neg hs]
        rfl
    refine (rmOpen_any s mb p c er 400 100000 M h ss B su [120] true w hG (fun hlt hq => ?_) hw (by omega) hG.g.sizes.1 hG.g.sizes.2 (by omega) (by decide)).mono fun e w' ho => ?_
    · have hs : nameB su = true := by
        by_cases hs : nameB su = true
        · exact hs
        · rw [hst, if_neg hs] at hq; cases hq
      have h16 := name_len hs
      have hkl : (keyL su [120]).length = 4 + su.length := by rw [keyL_len]; show 3 + su.length + 1 = _; omega
      refine room_of (by omega) A.three (A.zero h0) (by omega) (by omega) ⟨by omega, by omega⟩ (by show rc0.length ≤ 60; rw [rc0_len]; omega) (by omega) ?_ (by omega) rfl
      show 4 * (liveY (blobsOf (amap Sv.a M)) + ((keyL su [120]).length + rc0.length + 32)) ≤ _
      rw [hss, rc0_len, hkl]
      omega
    · rw [hst] at ho
      by_cases hs : nameB su = true
      · rw [if_pos hs] at ho
        rcases ho with ⟨hq, _, _⟩ | ⟨_, -, h8, rfl, hb⟩ | ⟨_, -, h8, rfl, M', h', ss', hG', hss', hY', hlM', hm⟩
        · exact absurd ⟨rfl, rfl⟩ hq
        · exact ⟨9, ⟨_, _, _, _, _, rfl⟩, .inr ⟨hs, .inr rfl⟩, ⟨M, h, (hG.below hb).g.st, by omega, fun q hq => (hG.g.at_ hq).1, by rw [hN.names, hif, Nat.add_zero]⟩, Only.of_below hb⟩
        · refine ⟨0, ⟨_, _, _, _, _, rfl⟩, .inr ⟨hs, .inl rfl⟩, ⟨M', h', hG'.g.st, by omega, fun q hq => (hG'.g.at_ hq).1, ?_⟩, hm⟩
          rw [hif, namesR_K (by decide), hY']
          have hf : adel (blobsOf (amap Sv.a M)) (keyL su [120]) = blobsOf (amap Sv.a M) := adel_none (fun q hq e => by
            have h2 : keyL su [120] ∈ H.map (keyL appB) := hN.perm.mem_iff.1 (List.mem_map.2 ⟨q, hq, e⟩)
            obtain ⟨m, hm, he⟩ := List.mem_map.1 h2
            refine hsu (pre_app hs [120] ?_)
            rw [← he]
            unfold preB
            rw [keyL_app, keyL_app]
            simp)
          have hp := (aput_perm (blobsOf (amap Sv.a M)) (keyL su [120]) rc0).map (·.1)
          rw [hf, List.map_cons] at hp
          have h1 := namesK_perm appB hp
          rw [namesK_other hs hsu, namesK_perm appB hN.perm, namesK_app H hN.name] at h1
          exact h1
      · rw [if_neg hs] at ho
        have hs' : nameB su = false := by simpa using hs
        rcases ho with ⟨-, hr, hb⟩ | ⟨h, _⟩ | ⟨h, _⟩
        · exact ⟨13, RecE.none_ hr, .inl ⟨hs', rfl⟩, ⟨M, h, (hG.below hb).g.st, by omega, fun q hq => (hG.g.at_ hq).1, by rw [hN.names, hif, Nat.add_zero]⟩, Only.of_below hb⟩
        · cases h
        · cases h
end

end Go.Proofs.YtidbipbangifbaaGreatDoor

/- The walk over RmsNames (layer 9). -/
namespace Go.Proofs.YtidbipbangifbaaGreatDoor
set_option maxRecDepth 100000
open Go.RowKit

theorem St9.le {s mb p c er k : Nat} {H : List (List UInt8)} {w : World} (h : St9 s mb p c er H k w) : H.length ≤ 8 := by
  obtain ⟨M, h', ss, B, _, _, _, hN⟩ := h
  exact hN.le
/-- A row of the call's own that grows: the store is as ever. -/
theorem St9.grown {s mb p c er k base : Nat} {H' H : List (List UInt8)} {w w' : World} {B : Option Addr} {m c0 : Nat} (hst : St9 s mb p c er H' k w) (hg : Strs base w B m c0 H) (hgr : w.grownBy w' (Value.slice B m c0).ownBlock) (hm : ∀ q, Mut s mb p c er q → q < base) (h0 : 0 < base) (hne : m = 0 → B = none) : St9 s mb p c er H' k w' := by
  rcases hg.here with rfl | ⟨g, cur, rfl, hbg, hB, -⟩
  · have hO : Only Empty w w' := Only.of_grown hgr (fun k hk _ => by cases hk)
    exact hst.below (hO.below (Nat.le_refl _) (fun _ _ h => h))
  · have hm0 : 0 < m := Nat.pos_of_ne_zero (fun h => by cases hne h)
    have hO : Only (· = g) w w' := Only.of_grown hgr (fun k hk _ => by cases hk; rfl)
    obtain ⟨b, o, f, e, -, -, -, hc⟩ := hg.row.at_ hm0
    cases e
    have hc := hc 0 (by decide)
    rw [Nat.zero_mul, Nat.add_zero, hB.cell] at hc
    obtain ⟨M, h', ss, Bq, hG, h1, h2, h3⟩ := hst
    exact ⟨M, h', ss, Bq, hG.turn hB (fun x hx => by rw [hc] at hx; cases hx) hO (fun hq => by have := hm g hq; omega) (by omega), h1, h2, h3⟩
theorem len_drop_lt {H : List (List UInt8)} {x : List UInt8} : (dropH H x).length < H.length ↔ x ∈ H := by
  constructor
  · intro h
    by_cases hx : x ∈ H
    · exact hx
    · rw [dropH_out hx] at h; omega
  · intro h
    unfold dropH
    have := List.length_filter_lt_length_iff_exists (l := H) (p := fun m => decide (m ≠ x))
    exact this.2 ⟨x, h, by simp⟩

set_option maxHeartbeats 16000000 in
theorem rmsNames_calls (A : Option Addr) (n cap : Nat) (l : List (List UInt8)) (D : Option Addr) (dn dc : Nat) (dl : List (List UInt8)) (su : List UInt8) (w : World) (hM : Mark w) (hL : RowSl strC 1 w Empty A n cap l) (hD : RowSl strC 1 w Empty D dn dc dl)
    (hl : ∀ x ∈ l, x.length ≤ 9223372036854775807) (hdl : ∀ x ∈ dl, x.length ≤ 9223372036854775807) (hsu : su.length ≤ 9223372036854775807) :
    Calls Tryz.prog 5 #[.slice A n cap, .slice D dn dc, .string (strB su)] w fun e w' => e = .returned (.bool true) ∧ Below w.heap.size w w' := by
  have HM := Lib.hid hM
  have HL := Lib.hid hL
  have HD := Lib.hid hD
  have Hl := Lib.hid hl
  have Hdl := Lib.hid hdl
  have h0w : 0 < w.heap.size := hM.pos
  have hnc : n ≤ cap := hL.2.1
  have hcm : cap ≤ 9223372036854775807 := by have h2 := hL.2.2.1; unfold maxLen at h2; omega
  have hdc : dn ≤ dc := hD.2.1
  have hdm : dc ≤ 9223372036854775807 := by have h2 := hD.2.2.1; unfold maxLen at h2; omega
  have hsz : (strB su).size = su.length := aa_size su
  have CF := Lib.hid (fixed9_any w hM)
  have HB : Hid (∀ W, Below w.heap.size w W → Mark W) := Lib.hid (fun W h => hM.below h)
  clear hM hL hD hl hdl
  go_enter Tryz.func5, Tryz.ntmps5
  go_wp2_with fail
  refine CF.out.mono ?_
  rintro e w1 ⟨rfl, hb1⟩
  have HB1 := Lib.hid hb1
  clear hb1 CF
  by_cases hn : 14 < n
  · have hd : decide ((14 : Int) < (n : Int)) = true := decide_eq_true (by omega)
    go_wp2
    go_ret
    exact ⟨rfl, HB1.out⟩
  have hd1 : decide ((14 : Int) < (n : Int)) = false := decide_eq_false (by omega)
  by_cases hdn : 14 < dn
  · have hd : decide ((14 : Int) < (dn : Int)) = true := decide_eq_true (by omega)
    go_wp2
    go_ret
    exact ⟨rfl, HB1.out⟩
  have hd2 : decide ((14 : Int) < (dn : Int)) = false := decide_eq_false (by omega)
  by_cases hs : 100 < su.length
  · have hd : decide ((100 : Int) < (su.length : Int)) = true := decide_eq_true (by omega)
    go_wp2
    go_ret
    exact ⟨rfl, HB1.out⟩
  have hd3 : decide ((100 : Int) < (su.length : Int)) = false := decide_eq_false (by omega)
  have CM := Lib.hid (made_any 8 400 w1 (HB.out w1 HB1.out) ⟨by decide, by decide, by decide, by decide, by decide, by decide⟩ (by decide) (by decide) (by decide))
  have hn14 : n ≤ 14 := by omega
  have hdn14 : dn ≤ 14 := by omega
  have hs100 : su.length ≤ 100 := by omega
  have h1w : w.heap.size ≤ w1.heap.size := HB1.out.size
  clear hn hdn hs
  go_wp2_with fail
  refine CM.out.mono ?_
  rintro e w2 ⟨⟨s, mb, p, c, er, rfl, hG, hA⟩, hb2⟩
  have HA := Lib.hid hA
  have HL2 := Lib.hid (Lat.below (Only.refl _ w1) hb2)
  have HS2 := Lib.hid (St9.start hG)
  have h2w : w1.heap.size ≤ w2.heap.size := hb2.size
  have Hrows : Hid (∀ W, Lat w1 W → RowSl strC 1 W Empty A n cap l ∧ RowSl strC 1 W Empty D dn dc dl) := Lib.hid (fun W h => by
    have hb := h.back HB1.out
    exact ⟨HL.out.below hb, HD.out.below hb⟩)
  have Hmu : Hid (∀ q, Mut s mb p c er q → q < w2.heap.size) := Lib.hid (fun q hq => (hA.muts q hq).2)
  clear hG hA hb2 CM
  go_wp2
  go_loopw [10, 54] (fun v i wr => ∃ (k m c' : Nat) (B : Option Addr) (H : List (List UInt8)), k ≤ n ∧ v = .slice B m c' ∧ i = .int .i64 (k : Int) ∧ Hid (Strs w2.heap.size wr B m c' H) ∧ Hid (St9 s mb p c er H k wr) ∧ Hid (Lat w1 wr) ∧ w2.heap.size ≤ wr.heap.size ∧ (m = 0 → B = none)) (fun _ i _ => n - (intOf i).toNat)
  case atStart => exact ⟨0, 0, 0, none, [], by omega, rfl, rfl, Lib.hid (GotR.nil_ _ _ _ _ _), HS2, HL2, Nat.le_refl _, fun _ => rfl⟩
  case round =>
    obtain ⟨k, m, c', B, H, hk, rfl, rfl, HG, HS, HLt, hwr, hBn⟩ := hrel
    have HBn := Lib.hid hBn
    clear hBn
    have hmc : m ≤ c' := HG.out.row.2.1
    have hcx : c' ≤ 9223372036854775807 := by have := HG.out.row.2.2.1; unfold maxLen at this; exact this
    by_cases hlt : k < n
    · obtain ⟨b, o, x, rfl, hbl, -, hx, hcl⟩ := (Hrows.out wr HLt.out).1.at_ hlt
      have hc0 : wr.cell? ⟨b, o + k, none⟩ = some (.string (strB x)) := by
        have := hcl 0 (by decide)
        rw [Nat.mul_one, Nat.add_zero] at this
        exact this
      have hxs : (strB x).size = x.length := aa_size x
      have hxl := Hl.out x (List.mem_of_getElem? hx)
      clear hx hcl
      by_cases hx100 : 100 < x.length
      · have hd : decide ((100 : Int) < (x.length : Int)) = true := decide_eq_true (by omega)
        have HBk := Lib.hid (HLt.out.back HB1.out)
        go_wp2
        go_ret
        exact ⟨rfl, HBk.out⟩
      · have hd4 : decide ((100 : Int) < (x.length : Int)) = false := decide_eq_false (by omega)
        have hx1 : x.length ≤ 100 := by omega
        have HrowB := Lib.hid HG.out.row
        clear hx100
        go_wp2
        go_loop [13, 63] (fun v i => ∃ j : Nat, j ≤ m ∧ v = .bool (decide (x ∈ H.take j)) ∧ i = .int .i64 (j : Int)) (fun _ i => m - (intOf i).toNat)
        case atStart => exact ⟨0, by omega, rfl, rfl⟩
        case round =>
          obtain ⟨j, hj, rfl, rfl⟩ := hrel
          by_cases hjl : j < m
          · obtain ⟨b2, o2, y, rfl, hbl2, -, hy, hcl2⟩ := HrowB.out.at_ hjl
            have hc2 : wr.cell? ⟨b2, o2 + j, none⟩ = some (.string (strB y)) := by
              have := hcl2 0 (by decide)
              rw [Nat.mul_one, Nat.add_zero] at this
              exact this
            have HT := Lib.hid (take_one H j y hy)
            clear hy hcl2
            by_cases hth : x ∈ H.take j
            · have HT2 : Hid (decide (x ∈ H.take (j + 1)) = true) := Lib.hid (decide_eq_true (by rw [HT.out]; exact List.mem_append_left _ hth))
              rw [decide_eq_true hth]
              clear hth
              go_wp2
              go_round
              case rel => exact ⟨j + 1, by omega, by rw [HT2.out], by go_num⟩
              case measure => simp [intOf]; omega
            · rw [decide_eq_false hth]
              have HT2 : Hid (((strB y).toList == (strB x).toList) = decide (x ∈ H.take (j + 1))) := Lib.hid (by
                rw [strB_toList, strB_toList, HT.out]
                by_cases hyx : y = x
                · subst hyx
                  simp
                · have h1 : (y == x) = false := by simpa using hyx
                  rw [h1]
                  symm
                  apply decide_eq_false
                  intro hmem
                  rcases List.mem_append.1 hmem with h2 | h2
                  · exact hth h2
                  · rw [List.mem_singleton] at h2
                    exact hyx h2.symm)
              clear hth
              go_wp2
              go_round
              case rel => exact ⟨j + 1, by omega, by rw [HT2.out], by go_num⟩
              case measure => simp [intOf]; omega
          · obtain rfl : j = m := by omega
            have hHl : H.length = j := HrowB.out.1
            have hH8 := HS.out.le
            have htk : H.take j = H := List.take_of_length_le (Nat.le_of_eq hHl)
            rw [htk]
            have CO := Lib.hid (openA HS.out HA.out (by omega) (by omega) x (by omega) (by omega))
            have CN : Hid (∀ W, Calls Tryz.prog 17 #[.string (strB x)] W fun e w' => e = .returned (.bool (nameB x)) ∧ Below W.heap.size W w') := Lib.hid (fun W => refName9_any x W (by omega))
            clear htk
            go_wp2_with fail
            refine CO.out.mono ?_
            rintro e w4 ⟨⟨ra, rb, A4, n4, c4, rfl⟩, hS4, hm4⟩
            obtain ⟨W5, hW5⟩ : ∃ W5, W5 = w4.alloc (.cells #[.int .u32 ra, .int .u32 rb, .slice A4 n4 c4] 31) := ⟨_, rfl⟩
            have hb5 : Below w4.heap.size w4 W5 := by rw [hW5]; exact (Below.refl _ _).alloc (Nat.le_refl _) _
            have HL4 := HLt.out.muts HA.out (Nat.le_refl _) hm4
            have HG4 := HG.out.only strC_len hm4 (fun i hi _ hM => by have := Hmu.out i hM; omega)
            have HG5 := Lib.hid (HG4.below strC_len hb5)
            have HL5 := Lib.hid (HL4.below hb5)
            have HS5 := Lib.hid (hS4.below hb5)
            have h5w : w2.heap.size ≤ W5.heap.size := by have := hm4.size; have := hb5.size; omega
            have HW5 := Lib.hid hW5
            clear hS4 hm4 hW5 hb5 HL4 HG4 CO HS HLt
            go_wp2_with fail
            rw [← HW5.out]
            refine (CN.out _).mono ?_
            rintro e w6 ⟨rfl, hb6⟩
            have HG6 := Lib.hid (HG5.out.below strC_len hb6)
            have HL6 := Lib.hid (HL5.out.below hb6)
            have HS6 := Lib.hid (HS5.out.below hb6)
            have h6w : w2.heap.size ≤ w6.heap.size := by have := hb6.size; omega
            clear hb6 CN HG5 HL5 HS5
            cases hnx : nameB x with
            | false =>
              have hoc : openC H x = 13 := by unfold openC; rw [if_neg (by rw [hnx]; decide)]
              have hoh : openH H x = H := by unfold openH; rw [if_neg (fun h => by rw [hnx] at h; cases h.1)]
              rw [hoh] at HS6
              rw [hoc]
              clear hoc hoh hnx
              go_wp2
              go_roundw
              case rel => exact ⟨k + 1, j, c', B, H, by omega, rfl, by go_num, HG6, HS6, HL6, h6w, HBn.out⟩
              case measure => simp [intOf]; omega
            | true =>
              by_cases hxH : x ∈ H
              · have hoc : openC H x = 0 := by unfold openC; rw [if_pos hnx, if_pos hxH]
                have hoh : openH H x = H := by unfold openH; rw [if_neg (fun h => h.2.1 hxH)]
                rw [hoh] at HS6
                rw [hoc, decide_eq_true hxH]
                clear hoc hoh hnx hxH
                go_wp2
                go_roundw
                case rel => exact ⟨k + 1, j, c', B, H, by omega, rfl, by go_num, HG6, HS6, HL6, h6w, HBn.out⟩
                case measure => simp [intOf]; omega
              · by_cases h8 : 8 ≤ j
                · have hoc : openC H x = 9 := by unfold openC; rw [if_pos hnx, if_neg hxH, if_pos (by omega)]
                  have hoh : openH H x = H := by unfold openH; rw [if_neg (fun h => by have := h.2.2; omega)]
                  rw [hoh] at HS6
                  rw [hoc, decide_eq_false hxH]
                  have hd8 : decide ((8 : Int) ≤ (j : Int)) = true := decide_eq_true (by omega)
                  clear hoc hoh hnx hxH
                  go_wp2
                  go_roundw
                  case rel => exact ⟨k + 1, j, c', B, H, by omega, rfl, by go_num, HG6, HS6, HL6, h6w, HBn.out⟩
                  case measure => simp [intOf]; omega
                · have hoc : openC H x = 0 := by unfold openC; rw [if_pos hnx, if_neg hxH, if_neg (by omega)]
                  have hoh : openH H x = H ++ [x] := by unfold openH; rw [if_pos ⟨hnx, hxH, by omega⟩]
                  rw [hoh] at HS6
                  rw [hoc, decide_eq_false hxH]
                  have hd8 : decide ((8 : Int) ≤ (j : Int)) = false := decide_eq_false (by omega)
                  have HG7 := Lib.hid (HG6.out.alloc strC_len (.cells #[.string (strB x)] 9))
                  have HX7 : Hid (RowSl strC 1 (w6.alloc (.cells #[.string (strB x)] 9)) Empty (some ⟨w6.heap.size, 0, none⟩) 1 1 [x]) := Lib.hid (str_lit x w6)
                  have h7w : w2.heap.size ≤ (w6.alloc (.cells #[.string (strB x)] 9)).heap.size := by simp; omega
                  have H7w := Lib.hid h7w
                  have HS7 := Lib.hid (HS6.out.below ((Below.refl w6.heap.size w6).alloc (Nat.le_refl _) (.cells #[.string (strB x)] 9)))
                  have HL7 := Lib.hid (HL6.out.below ((Below.refl w6.heap.size w6).alloc (Nat.le_refl _) (.cells #[.string (strB x)] 9)))
                  clear hoc hoh hnx hxH h7w
                  go_wp2_with (at_builtin; refine wpList_append_strs rfl (.tmp 92) (.tmp 94) rfl w2.heap.size B j c' H rfl HG7.out (some ⟨w6.heap.size, 0, none⟩) 1 1 [x] rfl HX7.out (fun h => by cases h) (by omega) H7w.out ?_; intro B8 c8 w8 hg8 hgr8 hr8 ho8; have HG8 := Lib.hid hg8; have HO8 : Hid (Only (fun q => w2.heap.size ≤ q) (w6.alloc (.cells #[.string (strB x)] 9)) w8) := Lib.hid (Only.of_grown hgr8 (fun q hq _ => hr8 q hq)); have HS8 := Lib.hid (HS7.out.grown HG7.out hgr8 Hmu.out (by omega) HBn.out); clear hg8 hgr8 hr8 ho8)
                  go_roundw
                  case rel => exact ⟨k + 1, j + 1, c8, B8, H ++ [x], by omega, rfl, by go_num, HG8, HS8, Lib.hid (Only.trans HL7.out (HO8.out.mono (fun q _ hq => Nat.le_trans h2w hq))), Nat.le_trans H7w.out HO8.out.size, fun h => by cases h⟩
                  case measure => simp [intOf]; omega
    · obtain rfl : k = n := by omega
      clear hmc hcx
      have HGa := HG
      have HSa := HS
      have HLa := HLt
      have HBa := HBn
      clear HG HS HLt HBn
      go_wp2
      go_loopw [10, 102] (fun v i wr => ∃ (q m c' : Nat) (B : Option Addr) (H : List (List UInt8)), q ≤ dn ∧ v = .slice B m c' ∧ i = .int .i64 (q : Int) ∧ Hid (Strs w2.heap.size wr B m c' H) ∧ Hid (St9 s mb p c er H (k + q) wr) ∧ Hid (Lat w1 wr) ∧ w2.heap.size ≤ wr.heap.size ∧ Hid (m = 0 → B = none)) (fun _ i _ => dn - (intOf i).toNat)
      case atStart => exact ⟨0, m, c', B, H, by omega, rfl, rfl, HGa, HSa, HLa, hwr, HBa⟩
      case round =>
        clear HGa HSa HLa HBa hwr
        obtain ⟨q, m, c', B, H, hq, rfl, rfl, HG, HS, HLt, hwr, HBn⟩ := hrel
        have hmc : m ≤ c' := HG.out.row.2.1
        have hcx : c' ≤ 9223372036854775807 := by have := HG.out.row.2.2.1; unfold maxLen at this; exact this
        by_cases hlt : q < dn
        · obtain ⟨b, o, x, rfl, hbl, -, hx, hcl⟩ := (Hrows.out wr HLt.out).2.at_ hlt
          have hc0 : wr.cell? ⟨b, o + q, none⟩ = some (.string (strB x)) := by
            have := hcl 0 (by decide)
            rw [Nat.mul_one, Nat.add_zero] at this
            exact this
          have hxs : (strB x).size = x.length := aa_size x
          have hxl := Hdl.out x (List.mem_of_getElem? hx)
          have hHl : H.length = m := HG.out.row.1
          have hH8 := HS.out.le
          have HrowB := Lib.hid HG.out.row
          clear hx hcl
          obtain ⟨W0, hW0⟩ : ∃ W0, W0 = wr := ⟨_, rfl⟩
          have HW0 := Lib.hid hW0
          go_wp2
          go_loopw [21, 108] (fun v i wr2 => ∃ (j r c2 : Nat) (R : Option Addr), j ≤ m ∧ r ≤ j ∧ v = .slice R r c2 ∧ i = .int .i64 (j : Int) ∧ Hid (Strs W0.heap.size wr2 R r c2 (dropH (H.take j) x)) ∧ Hid (Below W0.heap.size W0 wr2) ∧ Hid (r = 0 → R = none)) (fun _ i _ => m - (intOf i).toNat)
          case atStart => exact ⟨0, 0, 0, none, by omega, by omega, rfl, rfl, Lib.hid (GotR.nil_ _ _ _ _ _), Lib.hid (by rw [← HW0.out]; exact Below.refl _ _), Lib.hid (fun _ => rfl)⟩
          case round =>
            clear hc0
            obtain ⟨j, r, c2, R, hj, hrj, rfl, rfl, HR, HB2, HRn⟩ := hrel
            have hrc : r ≤ c2 := HR.out.row.2.1
            have hrx : c2 ≤ 9223372036854775807 := by have := HR.out.row.2.2.1; unfold maxLen at this; exact this
            have HrowW : Hid (RowSl strC 1 W0 Empty B m c' H) := Lib.hid (by rw [HW0.out]; exact HrowB.out)
            by_cases hjl : j < m
            · obtain ⟨b2, o2, y, rfl, hbl2, -, hy, hcl2⟩ := (HrowW.out.below HB2.out).at_ hjl
              have hc2 : wr.cell? ⟨b2, o2 + j, none⟩ = some (.string (strB y)) := by
                have := hcl2 0 (by decide)
                rw [Nat.mul_one, Nat.add_zero] at this
                exact this
              have HT : Hid (dropH (H.take (j + 1)) x = dropH (H.take j) x ++ (if y = x then [] else [y])) := Lib.hid (by
                unfold dropH
                rw [take_one H j y hy, List.filter_append]
                by_cases hyx : y = x <;> simp [hyx])
              clear hy hcl2
              by_cases hyx : y = x
              · have hcmp : ((strB y).toList == (strB x).toList) = true := by rw [strB_toList, strB_toList]; simpa using hyx
                have hcmp2 : ((strB y).toList != (strB x).toList) = false := by rw [strB_toList, strB_toList]; simpa using hyx
                rw [if_pos hyx, List.append_nil] at HT
                have HR2 : Hid (Strs W0.heap.size wr R r c2 (dropH (H.take (j + 1)) x)) := Lib.hid (by rw [HT.out]; exact HR.out)
                clear hyx
                go_wp2
                go_roundw
                case rel => exact ⟨j + 1, r, c2, R, by omega, by omega, rfl, by go_num, HR2, HB2, HRn⟩
                case measure => simp [intOf]; omega
              · have hcmp : ((strB y).toList == (strB x).toList) = false := by rw [strB_toList, strB_toList]; simpa using hyx
                have hcmp2 : ((strB y).toList != (strB x).toList) = true := by rw [strB_toList, strB_toList]; simpa using hyx
                rw [if_neg hyx] at HT
                have HR6 := Lib.hid (HR.out.alloc strC_len (.cells #[.string (strB y)] 9))
                have HX6 : Hid (RowSl strC 1 (wr.alloc (.cells #[.string (strB y)] 9)) Empty (some ⟨wr.heap.size, 0, none⟩) 1 1 [y]) := Lib.hid (str_lit y wr)
                have HB6 : Hid (Below W0.heap.size W0 (wr.alloc (.cells #[.string (strB y)] 9))) := Lib.hid (HB2.out.alloc HB2.out.size _)
                clear hyx
                go_wp2_with (at_builtin; refine wpList_append_strs rfl (.tmp 115) (.tmp 117) rfl W0.heap.size R r c2 (dropH (H.take j) x) rfl HR6.out (some ⟨wr.heap.size, 0, none⟩) 1 1 [y] rfl HX6.out (fun h => by cases h) (by omega) HB6.out.size ?_; intro R7 c7 w7 hg7 hgr7 hr7 ho7; have HG7 := Lib.hid hg7; have HB7 : Hid (Below W0.heap.size W0 w7) := Lib.hid (below_gotR (base := W0.heap.size) HB6.out HB6.out.size hgr7 hr7 (Nat.le_refl _)); clear hg7 hgr7 hr7 ho7)
                go_roundw
                case rel => exact ⟨j + 1, r + 1, c7, R7, by omega, by omega, rfl, by go_num, Lib.hid (by rw [HT.out]; exact HG7.out), HB7, Lib.hid (fun h => by cases h)⟩
                case measure => simp [intOf]; omega
            · obtain rfl : j = m := by omega
              have htk : H.take j = H := List.take_of_length_le (Nat.le_of_eq hHl)
              rw [htk] at HR
              have HSw : Hid (St9 s mb p c er H (k + q) W0) := Lib.hid (by rw [HW0.out]; exact HS.out)
              have HLw : Hid (Lat w1 W0) := Lib.hid (by rw [HW0.out]; exact HLt.out)
              have hW0w : w2.heap.size ≤ W0.heap.size := by rw [HW0.out]; exact hwr
              have CD := Lib.hid (dropA (HSw.out.below HB2.out) HA.out (by omega) x hxl (by omega))
              have HL3 := Lib.hid (HLw.out.below HB2.out)
              have hw3 : W0.heap.size ≤ wr.heap.size := HB2.out.size
              have hrl : (dropH H x).length = r := HR.out.row.1
              clear htk
              go_wp2_with fail
              refine CD.out.mono ?_
              rintro e w4 ⟨rfl, hS4, hm4⟩
              have HS4 := Lib.hid hS4
              have HR4 := Lib.hid ((HR.out.only strC_len hm4 (fun i hi _ hM => by have := Hmu.out i hM; omega)).lower hW0w)
              have HL4 := Lib.hid (HL3.out.muts HA.out (Nat.le_refl _) hm4)
              have h4w : w2.heap.size ≤ w4.heap.size := by have := hm4.size; omega
              have HNm : Hid (x ∈ H → nameB x = true) := Lib.hid (fun h => by
                obtain ⟨M, h', ss, Bq, _, _, _, hN⟩ := HSw.out
                exact hN.name x h)
              clear hS4 hm4 CD HB2
              by_cases hx1 : x.length ≤ 100
              · have hd5 : decide ((x.length : Int) ≤ 100) = true := decide_eq_true (by omega)
                by_cases hxH : x ∈ H
                · have hdc0 : dropC H x = 0 := by unfold dropC; rw [if_pos (HNm.out hxH), if_pos hxH]
                  have hlt2 : r < j := by have := len_drop_lt.2 hxH; omega
                  rw [hdc0]
                  clear hdc0 hxH
                  go_wp2
                  go_roundw
                  case rel => exact ⟨q + 1, r, c2, R, dropH H x, by omega, rfl, by go_num, HR4, Lib.hid (by rw [← Nat.add_assoc]; exact HS4.out), HL4, h4w, HRn⟩
                  case measure => simp [intOf]; omega
                · have hdc0 : dropC H x = 11 ∨ dropC H x = 13 := by
                    unfold dropC
                    by_cases hnx : nameB x = true
                    · rw [if_pos hnx, if_neg hxH]; exact .inl rfl
                    · rw [if_neg hnx]; exact .inr rfl
                  have hlt2 : ¬ r < j := by rw [dropH_out hxH] at hrl; omega
                  clear hxH
                  rcases hdc0 with hdc0 | hdc0
                  all_goals
                    rw [hdc0]
                    clear hdc0
                    go_wp2
                    go_roundw
                    case rel => exact ⟨q + 1, r, c2, R, dropH H x, by omega, rfl, by go_num, HR4, Lib.hid (by rw [← Nat.add_assoc]; exact HS4.out), HL4, h4w, HRn⟩
                    case measure => simp [intOf]; omega
              · have hd5 : decide ((x.length : Int) ≤ 100) = false := decide_eq_false (by omega)
                go_wp2
                go_roundw
                case rel => exact ⟨q + 1, r, c2, R, dropH H x, by omega, rfl, by go_num, HR4, Lib.hid (by rw [← Nat.add_assoc]; exact HS4.out), HL4, h4w, HRn⟩
                case measure => simp [intOf]; omega
        · obtain rfl : q = dn := by omega
          have CL := Lib.hid (openL HS.out HA.out (by omega) (by omega) su hs100 (by omega))
          have hHl : H.length = m := HG.out.row.1
          have hH8 := HS.out.le
          have CN : Hid (∀ W, Calls Tryz.prog 17 #[.string (strB su)] W fun e w' => e = .returned (.bool (nameB su)) ∧ Below W.heap.size W w') := Lib.hid (fun W => refName9_any su W (by omega))
          go_wp2_with fail
          refine CL.out.mono ?_
          rintro e w4 ⟨code, ⟨ra, rb, A4, n4, c4, rfl⟩, hcode, ⟨M, h4, hSt, hMl, hMk, hnm⟩, hm4⟩
          obtain ⟨W5, hW5⟩ : ∃ W5, W5 = w4.alloc (.cells #[.int .u32 ra, .int .u32 rb, .slice A4 n4 c4] 31) := ⟨_, rfl⟩
          have hb5 : Below w4.heap.size w4 W5 := by rw [hW5]; exact (Below.refl _ _).alloc (Nat.le_refl _) _
          have HL5 := Lib.hid ((HLt.out.muts HA.out (Nat.le_refl _) hm4).below hb5)
          have HG5 := Lib.hid ((HG.out.only strC_len hm4 (fun i hi _ hM => by have := Hmu.out i hM; omega)).below strC_len hb5)
          have CNm := names_any s mb p c er M h4 false appB W5 (hSt.below hb5) hMl (by decide) hMk
          have CNm := Lib.hid CNm
          have Hnm := Lib.hid hnm
          have Hcode := Lib.hid hcode
          have HW5 := Lib.hid hW5
          clear hSt hMl hMk hnm hm4 hW5 hb5 CL hcode HG HS HLt
          go_wp2_with fail
          rw [← HW5.out]
          refine CNm.out.mono ?_
          rintro e w6 ⟨⟨A6, n6, c6, rfl, hS6⟩, hb6⟩
          have hn6 : (namesR appB M).length = n6 := hS6.row.1
          have hn6c : n6 ≤ c6 := hS6.row.2.1
          have hc6x : c6 ≤ 9223372036854775807 := by have := hS6.row.2.2.1; unfold maxLen at this; exact this
          have HL6 := Lib.hid (HL5.out.below hb6)
          have HG6 := Lib.hid (HG5.out.below strC_len hb6)
          have hnum := Hnm.out
          rw [hn6] at hnum
          have Hnum := Lib.hid hnum
          clear hS6 hb6 hn6 hnum CNm HG5 HL5
          have hsl : (strB su).toList = su := strB_toList su
          have fin : ∀ {W : World}, Below w6.heap.size w6 W → Below w.heap.size w W := fun h => (HL6.out.below h).back HB1.out
          have Hfin : Hid (∀ {W : World}, Below w6.heap.size w6 W → Below w.heap.size w W) := Lib.hid fin
          clear fin
          rcases Hcode.out with ⟨hns, rfl⟩ | ⟨hns, rfl | rfl⟩
          · have hne : su ≠ appB := fun h => by rw [h] at hns; cases hns
            have hsu1 : ¬ (strB su).toList = [97, 112, 112] := by rw [hsl]; exact hne
            have hnum := Hnum.out
            rw [if_neg (fun h => hne h.1), hHl, Nat.add_zero] at hnum
            subst hnum
            rw [hns] at CN
            clear hne hns hsl
            go_wp2_with fail
            refine (CN.out _).mono ?_
            rintro e w7 ⟨rfl, hb7⟩
            have Hb7 := Lib.hid hb7
            clear hb7
            go_wp2
            go_ret
            exact ⟨rfl, Hfin.out Hb7.out⟩
          · rw [hns] at CN
            by_cases hap : su = appB
            · have hsu1 : (strB su).toList = [97, 112, 112] := by rw [hsl]; exact hap
              have hnum := Hnum.out
              have HnumA : Hid (n6 = m + (if [120] ∉ H then 1 else 0)) := Lib.hid (by
                rw [hnum, hHl]
                congr 1
                by_cases h : [120] ∈ H
                · rw [if_neg (fun k => k.2.2 h), if_neg (fun k => k h)]
                · rw [if_pos ⟨hap, rfl, h⟩, if_pos h])
              have HrowB := Lib.hid HG6.out.row
              clear hap hns hsl hnum
              go_wp2
              go_loop [29, 156] (fun v i => ∃ j : Nat, j ≤ m ∧ v = .bool (decide ([120] ∈ H.take j)) ∧ i = .int .i64 (j : Int)) (fun _ i => m - (intOf i).toNat)
              case atStart => exact ⟨0, by omega, rfl, rfl⟩
              case round =>
                obtain ⟨j, hj, rfl, rfl⟩ := hrel
                by_cases hjl : j < m
                · obtain ⟨b2, o2, y, rfl, hbl2, -, hy, hcl2⟩ := HrowB.out.at_ hjl
                  have hc2 : w6.cell? ⟨b2, o2 + j, none⟩ = some (.string (strB y)) := by
                    have := hcl2 0 (by decide)
                    rw [Nat.mul_one, Nat.add_zero] at this
                    exact this
                  have HT := Lib.hid (take_one H j y hy)
                  clear hy hcl2
                  by_cases hth : [120] ∈ H.take j
                  · have HT2 : Hid (decide ([120] ∈ H.take (j + 1)) = true) := Lib.hid (decide_eq_true (by rw [HT.out]; exact List.mem_append_left _ hth))
                    rw [decide_eq_true hth]
                    clear hth
                    go_wp2
                    go_round
                    case rel => exact ⟨j + 1, by omega, by rw [HT2.out], by go_num⟩
                    case measure => simp [intOf]; omega
                  · rw [decide_eq_false hth]
                    by_cases hyx : y = [120]
                    · have hyl : (strB y).toList = [120] := by rw [strB_toList]; exact hyx
                      have HT2 : Hid (decide ([120] ∈ H.take (j + 1)) = true) := Lib.hid (decide_eq_true (by rw [HT.out, hyx]; simp))
                      clear hth hyx
                      go_wp2
                      go_round
                      case rel => exact ⟨j + 1, by omega, by rw [HT2.out], by go_num⟩
                      case measure => simp [intOf]; omega
                    · have hyl : ¬ (strB y).toList = [120] := by rw [strB_toList]; exact hyx
                      have HT2 : Hid (decide ([120] ∈ H.take (j + 1)) = false) := Lib.hid (decide_eq_false (by
                        rw [HT.out]
                        intro hmem
                        rcases List.mem_append.1 hmem with h2 | h2
                        · exact hth h2
                        · rw [List.mem_singleton] at h2
                          exact hyx h2.symm))
                      clear hth hyx
                      go_wp2
                      go_round
                      case rel => exact ⟨j + 1, by omega, (by rw [HT2.out, show ((strB y).toList == [120]) = false by simpa using hyl]), by go_num⟩
                      case measure => simp [intOf]; omega
                · obtain rfl : j = m := by omega
                  have htk : H.take j = H := List.take_of_length_le (Nat.le_of_eq hHl)
                  rw [htk]
                  clear htk
                  have hnum := HnumA.out
                  by_cases hx : [120] ∈ H
                  · rw [if_neg (fun k => k hx), Nat.add_zero] at hnum
                    subst hnum
                    rw [decide_eq_true hx]
                    clear hx
                    go_wp2_with fail
                    refine (CN.out _).mono ?_
                    rintro e w7 ⟨rfl, hb7⟩
                    have Hb7 := Lib.hid hb7
                    clear hb7
                    go_wp2
                    go_ret
                    exact ⟨rfl, Hfin.out Hb7.out⟩
                  · rw [if_pos hx] at hnum
                    subst hnum
                    rw [decide_eq_false hx]
                    clear hx
                    go_wp2_with fail
                    refine (CN.out _).mono ?_
                    rintro e w7 ⟨rfl, hb7⟩
                    have Hb7 := Lib.hid hb7
                    clear hb7
                    go_wp2
                    go_ret
                    exact ⟨rfl, Hfin.out Hb7.out⟩
            · have hsu1 : ¬ (strB su).toList = [97, 112, 112] := by rw [hsl]; exact hap
              have hnum := Hnum.out
              rw [if_neg (fun h => hap h.1), hHl, Nat.add_zero] at hnum
              subst hnum
              clear hap hns hsl
              go_wp2_with fail
              refine (CN.out _).mono ?_
              rintro e w7 ⟨rfl, hb7⟩
              have Hb7 := Lib.hid hb7
              clear hb7
              go_wp2
              go_ret
              exact ⟨rfl, Hfin.out Hb7.out⟩
          · rw [hns] at CN
            have hnum := Hnum.out
            rw [if_neg (fun h => by have := h.2.1; omega), hHl, Nat.add_zero] at hnum
            subst hnum
            by_cases hap : su = appB
            · have hsu1 : (strB su).toList = [97, 112, 112] := by rw [hsl]; exact hap
              clear hap hns hsl
              go_wp2_with fail
              refine (CN.out _).mono ?_
              rintro e w7 ⟨rfl, hb7⟩
              have Hb7 := Lib.hid hb7
              clear hb7
              go_wp2
              go_ret
              exact ⟨rfl, Hfin.out Hb7.out⟩
            · have hsu1 : ¬ (strB su).toList = [97, 112, 112] := by rw [hsl]; exact hap
              clear hap hns hsl
              go_wp2_with fail
              refine (CN.out _).mono ?_
              rintro e w7 ⟨rfl, hb7⟩
              have Hb7 := Lib.hid hb7
              clear hb7
              go_wp2
              go_ret
              exact ⟨rfl, Hfin.out Hb7.out⟩

end Go.Proofs.YtidbipbangifbaaGreatDoor

/- A []string that comes in as an argument, opened (layer 9). -/
namespace Go.Proofs.YtidbipbangifbaaGreatDoor
set_option maxRecDepth 100000
open Go.ChangeShapes Go.WideShapes Go.ChangeAt Go.RowKit Go.Joins

section
variable {H : Type} {enc : TypeId × Value → H} {W : World} {base : Nat}
theorem open_strs {v : Value} {d : DataW H} {p : List MemPlace} (hv : Value.okWide Tryz.prog W .any base 53 v) (h : DataW.Trod enc Tryz.prog W 0 (fun _ => true) true 53 v d p) :
    ∃ (A : Option Addr) (n cap : Nat) (l : List (List UInt8)), v = .slice A n cap ∧ RowSl strC 1 W Empty A n cap l ∧ ∀ x ∈ l, x.length ≤ 9223372036854775807 := by
  obtain ⟨A, n, cap, l, rfl, hl, hn, hm, hA, hP⟩ := open_rows (enc := enc) ([] : List UInt8) 53 9 1 Tryz.underlying53 (by kernel_rfl) (by decide)
    (fun b off f => W.cell? ⟨b, off, none⟩ = some (.string (strB f)) ∧ f.length ≤ 9223372036854775807)
    (fun b off fuel cs x hc ht => by
      obtain ⟨s, e0, _, ws⟩ := DataW.trod_string Tryz.underlying9 ht
      obtain ⟨_, hl, hat⟩ := World.cells?_some hc
      subst e0
      have h1 := hat 0 (by omega)
      rw [add_off] at h1
      have e : strB s.data.toList = s := rfl
      exact ⟨s.data.toList, by rw [e]; simpa using h1, by simpa [maxLen] using ws⟩) hv h
  refine ⟨A, n, cap, l, rfl, ⟨hl, hn, hm, fun h0 => ?_⟩, fun x hx => ?_⟩
  · obtain ⟨b, o, e, hb, hc⟩ := hP h0
    refine ⟨b, o, e, hb, fun h => h, fun i f hf j hj => ?_⟩
    obtain rfl : j = 0 := by omega
    simpa [strC, encStr, strB] using (hc i f hf).1
  · obtain ⟨i, hi, he⟩ := List.mem_iff_getElem.1 hx
    obtain ⟨b, o, e, hb, hc⟩ := hP (by omega)
    exact (hc i x (by rw [← he]; exact List.getElem?_eq_getElem hi)).2
end

end Go.Proofs.YtidbipbangifbaaGreatDoor
