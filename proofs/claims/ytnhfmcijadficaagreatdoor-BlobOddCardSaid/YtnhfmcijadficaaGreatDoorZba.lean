/- The walk over blob's keysBySector. -/
import Derived.Test.YtnhfmcijadficaaGreatDoorZaz
import Derived.Laws.OwnMore
import Derived.Test.YtnhfmcijadficaaGreatDoorZaw
import Derived.Test.YtnhfmcijadficaaGreatDoorZay
namespace Go.Proofs.YtnhfmcijadficaaGreatDoor
set_option maxRecDepth 100000
open Go.RowKit Go.Maps

/-- Keys by sectors. -/
def kbsL (M : Al Sv) (S : Nat) (l : List (List UInt8)) : List (List (List UInt8)) := (List.range S).map fun (j : Nat) => l.filter fun k => decide ((svAt M k).sec = (j : Int))
theorem kbsL_len (M : Al Sv) (S : Nat) (l : List (List UInt8)) : (kbsL M S l).length = S := by simp [kbsL]
theorem kbsL_snoc (M : Al Sv) (S : Nat) (l : List (List UInt8)) (x : List UInt8) (j : Nat) (ks : List (List UInt8)) (hj : (svAt M x).sec = (j : Int)) (hk : (kbsL M S l)[j]? = some ks) : kbsL M S (l ++ [x]) = (kbsL M S l).set j (ks ++ [x]) := by
  apply List.ext_getElem?
  intro i
  unfold kbsL at hk ⊢
  rw [List.getElem?_set]
  by_cases hi : i < S
  · rw [List.getElem?_map, List.getElem?_range hi]
    simp only [Option.map_some, List.length_map, List.length_range]
    rw [List.filter_append]
    by_cases hij : j = i
    · subst hij
      rw [List.getElem?_map, List.getElem?_range hi] at hk
      simp only [Option.map_some, Option.some.injEq] at hk
      rw [if_pos rfl, if_pos hi, hk]
      simp [hj]
    · rw [if_neg hij, List.getElem?_map, List.getElem?_range hi]
      simp only [Option.map_some]
      have : decide ((svAt M x).sec = (i : Int)) = false := by rw [hj]; simp; omega
      simp [this]
  · rw [List.getElem?_eq_none (by simp; omega)]
    split
    · split
      · rename_i h1 h2
        simp at h2
        omega
      · rfl
    · rw [List.getElem?_eq_none (by simp; omega)]
theorem kbsL_nil (M : Al Sv) (S : Nat) : kbsL M S [] = List.replicate S [] := by
  unfold kbsL
  apply List.ext_getElem?
  intro i
  rw [List.getElem?_map, List.getElem?_replicate]
  by_cases hi : i < S
  · rw [List.getElem?_range hi, if_pos hi]; rfl
  · rw [List.getElem?_eq_none (by simp; omega), if_neg hi]; rfl

/-- Each blob stands in one of so many sectors. -/
def SecsIn (M : Al Sv) (S : Nat) : Prop := ∀ q ∈ M, 0 ≤ q.2.sec ∧ q.2.sec < (S : Int)

theorem Tryz.infoStrs : (Tryz.prog.info? 67).map (fun i => (i.zero, i.size, i.bytes)) = some (some (.slice none 0 0), 1, 24) := by kernel_rfl
theorem keys_made (w : World) (base bi n : Nat) (A : Option Addr) (cap : Nat) (hle : base ≤ bi) (h : w.ownsRow base 67 1 (.slice A n cap) n (madeCells (Value.cells (.slice none 0 0)) (n * 1)).toList) : KeysAt w base bi A cap (List.replicate n ⟨none, 0, []⟩) ∧ (List.replicate n (⟨none, 0, []⟩ : Kr)).length = n := by
  have hlen : (List.replicate n (⟨none, 0, []⟩ : Kr)).length = n := List.length_replicate
  have hf : (madeCells (Value.cells (.slice none 0 0)) (n * 1)).toList = (List.replicate n (⟨none, 0, []⟩ : Kr)).flatMap Kr.cells := by
    rw [Nat.mul_one, show Value.cells (.slice none 0 0) = #[.slice none 0 0] from by simp [Value.cells], toList_madeCells_one]
    clear h hlen
    induction n with
    | zero => rfl
    | succ n ih => rw [List.replicate_succ, List.replicate_succ, List.flatMap_cons, ← ih]; rfl
  rw [hf] at h
  obtain ⟨A', c', he, hG⟩ := GotR.of_own kr_len h hlen
  cases he
  refine ⟨⟨hle, by rw [hlen]; exact hG, fun i k hk => ?_, fun i j a b ha hb hij => ?_⟩, hlen⟩
  · rw [List.getElem?_replicate] at hk
    split at hk
    · cases hk
      exact GotR.nil_ _ _ _ _ _
    · cases hk
  · rw [List.getElem?_replicate] at ha
    split at ha
    · cases ha
      exact Or.inl rfl
    · cases ha


theorem stand_field0 (a : Int) (v : Value) (W : World) : (Instr.field 134 (.agg #[.int .i64 a, v]) 0).run Tryz.prog W = .ok (.int .i64 a) W := by kernel_rfl
theorem stand_field1 (a : Int) (A : Option Addr) (n c : Nat) (W : World) : (Instr.field 134 (.agg #[.int .i64 a, .slice A n c]) 1).run Tryz.prog W = .ok (.slice A n c) W := by kernel_rfl
theorem keysOf_nil (M : Al Sv) : keysOf [] M = M.map (·.1) := by
  unfold keysOf
  rw [List.filter_eq_self]
  intro k _
  simp [preB]
theorem StM.look_enc {w : World} {b n : Nat} {M : Al Sv} (h : StM w b n M) (k : List UInt8) (hk : k.length ≤ maxLen) : (Instr.lookup 102 (.map (some b)) (encStr k) false).run Tryz.prog w = .ok (svAt M k).v w := by
  have h1 := h.look ⟨k.toArray⟩ (by show k.toArray.size ≤ _; simpa using hk)
  simpa [encStr] using h1

set_option maxHeartbeats 1000000 in
theorem keysBy_any (s mb p c e Z L : Nat) (M : Al Sv) (h : HeadV) (d : Bool) (ss : List (Nat × List UInt8)) (w : World) (hS : StoreAt w s mb p c e M h d) (hs : FS w p c e Z L ss) (hM : M.length ≤ 1048576) (hF : FairM M) (hsec : SecsIn M ss.length) :
    Calls Tryz.prog 87 #[.pointer (some ⟨s, 0, none⟩)] w fun e1 w' => (∃ A cap K bi, e1 = .returned (.slice A ss.length cap) ∧ KeysAt w' w.heap.size bi A cap K ∧ K.length = ss.length ∧ K.map Kr.ks = kbsL M ss.length (M.map (·.1)) ∧ bi ≤ w'.heap.size) ∧ Below w.heap.size w w' := by
  obtain ⟨i0, hi, hz0, hz1, hz2⟩ := info_parts Tryz.infoStrs
  have hz := hs.bz
  have s0 : w.cell? ⟨s, 0, none⟩ = some (.pointer (some ⟨p, 0, none⟩)) := hS.blk.cell 0
  have hg := geo_field0 (ss.length : Int) (Z : Int) (L : Int)
  have HS := Lib.hid hs
  have HK := Lib.hid hS
  have Hat : Hid (∀ x, x ∈ M.map (·.1) → x.length ≤ 64 ∧ ∃ j : Nat, (svAt M x).sec = (j : Int) ∧ j < ss.length) := Lib.hid (fun x hx => by
    obtain ⟨q, hq, rfl⟩ := List.mem_map.1 hx
    have h1 := svAt_v (afind_of_mem hS.map.sorted hq)
    have h2 := hsec q hq
    refine ⟨(hF q hq).1, q.2.sec.toNat, ?_, ?_⟩
    · show (svAt M q.1).sec = _
      rw [h1]
      omega
    · omega)
  obtain ⟨S, hSS⟩ : ∃ S, S = ss.length := ⟨_, rfl⟩
  rw [← hSS] at hg hz Hat ⊢
  have HSS := Lib.hid hSS
  have hsb : S ≤ 64 := hz.2.1
  have hib : i0.bytes * S ≤ 281474976710656 := by rw [hz2]; omega
  clear hs hS hsec hSS hz hF
  go_enter Tryz.func87, Tryz.ntmps87
  go_wp2_with fail
  refine HS.out.geo.mono ?_
  rw [← HSS.out]
  rintro e1 w1 ⟨rfl, hb1⟩
  have Hb1 := Lib.hid hb1
  clear hb1
  go_wp2_with (at_make; refine wpList_make_full _ rfl _ _ 107 rfl w.heap.size 67 i0 (.slice none 0 0) 1 Tryz.underlying107 hi hz0 hz1 _ _ _ _ S rfl rfl rfl rfl hib (by unfold maxLen; omega) Hb1.out.size ?_; intro w2 hrow2 hg2)
  have hk2 := keys_made w2 w.heap.size (w2.heap.size) S _ S (Nat.le_trans Hb1.out.size hg2.size) hrow2
  have hb2 : Below w1.heap.size w1 w2 := ⟨hg2.os, hg2.tape, hg2.output, hg2.size, fun i hi => hg2.block i hi (by simp)⟩
  have Hb2 := Lib.hid (Hb1.out.trans (hb2.mono Hb1.out.size))
  have Hrow2 := Lib.hid hrow2
  have Hkeys := Lib.hid (keys_any s mb p c e M h d ⟨#[]⟩ w2 (HK.out.below Hb2.out) hM)
  have hgo12 : w1.heap.size < w2.heap.size := by
    rcases hrow2.2 with ⟨hn, _⟩ | ⟨g', cap', cur, hv, _, hb, _⟩
    · cases hn
    · cases hv
      exact (Array.getElem?_eq_some_iff.1 hb).1
  clear hk2 hrow2 hg2 hb2
  go_wp2_with fail
  refine Hkeys.out.mono ?_
  rintro e3 w3 ⟨⟨A3, n3, cap3, rfl, hG3⟩, hb3⟩
  have Hb3 := Lib.hid (Hb2.out.trans (hb3.mono Hb2.out.size))
  have hks : keysOf (⟨#[]⟩ : ByteArray).data.toList M = M.map (·.1) := keysOf_nil M
  rw [hks] at hG3
  obtain ⟨LK, hLK⟩ : ∃ LK, LK = M.map (·.1) := ⟨_, rfl⟩
  rw [← hLK] at hG3
  have HLK := Lib.hid hLK
  obtain ⟨go, hgo⟩ : ∃ go, go = w1.heap.size := ⟨_, rfl⟩
  rw [← hgo] at Hrow2 hgo12 ⊢
  have hrow3 := hG3.out (S := fun q => q = go ∨ w3.heap.size ≤ q) (fun q h1 h2 h3 => by rcases h3 with h3 | h3 <;> omega)
  have HG3 := Lib.hid hrow3
  have hgo3 : go < w3.heap.size := by have := hb3.size; omega
  have hk3 := keys_made w3 w.heap.size w3.heap.size S (some ⟨go, 0, none⟩) S Hb3.out.size (own_only Hrow2.out (Only.of_below (S := Empty) hb3) (fun _ _ _ h => h))
  have HK3 := Lib.hid hk3.1
  have HK3l := Lib.hid hk3.2
  have HStore := Lib.hid (HK.out.below Hb3.out)
  have hsl : s < w.heap.size := HK.out.blk.lt
  have hml : mb < w.heap.size := HK.out.map.lt
  have hwgo : w.heap.size ≤ go := by rw [hgo]; exact Hb1.out.size
  have hlen3 : LK.length = n3 := hG3.row.1
  have hn3 : n3 ≤ 1048576 := by rw [← hlen3, HLK.out, List.length_map]; exact hM
  have hcap3 : n3 ≤ cap3 := hG3.row.2.1
  have hcap32 : cap3 ≤ 9223372036854775807 := by have := hG3.row.2.2.1; unfold maxLen at this; omega
  clear hks hLK hG3 hb3 hrow3 hk3 hgo Hrow2 Hkeys
  go_wp2_with fail
  go_loopw [17] (fun v wr => ∃ (i : Nat) (K : List Kr), i ≤ n3 ∧ v = .int .i64 (i : Int) ∧ Hid (KeysAt wr w.heap.size w3.heap.size (some ⟨go, 0, none⟩) S K) ∧ Hid (K.length = S ∧ K.map Kr.ks = kbsL M S (LK.take i)) ∧ Hid (Only (fun q => q = go ∨ w3.heap.size ≤ q) w3 wr)) (fun v _ => n3 - (intOf v).toNat)
  case atStart =>
    refine ⟨0, _, Nat.zero_le _, rfl, HK3, Lib.hid ⟨HK3l.out, ?_⟩, Lib.hid (Only.refl _ _)⟩
    rw [List.take_zero, kbsL_nil, List.map_replicate]
  case round =>
    obtain ⟨i, K, hi, rfl, HKK, HKs, HO⟩ := hrel
    by_cases hlt : i < n3
    · obtain ⟨b, o, x, rfl, hb, -, hx, hc⟩ := (HG3.out.only HO.out (fun _ _ h => h)).at_ hlt
      have c0 := hc 0 (by omega)
      simp only [strC, List.getElem?_cons_zero, Nat.mul_one, Nat.add_zero] at c0
      have hmem : x ∈ M.map (·.1) := by rw [← HLK.out]; exact List.mem_of_getElem? hx
      obtain ⟨hx64, j, hj, hjS⟩ := Hat.out x hmem
      have htk := take_snoc LK i x hx
      obtain ⟨k, hk⟩ : ∃ k, K[j]? = some k := ⟨_, List.getElem?_eq_getElem (by rw [HKs.out.1]; exact hjS)⟩
      have hkk : (kbsL M S (LK.take i))[j]? = some k.ks := by rw [← HKs.out.2, List.getElem?_map, hk]; rfl
      have hsn := kbsL_snoc M S (LK.take i) x j k.ks hj hkk
      rw [← htk] at hsn
      have hkl : k.ks.length ≤ 1048576 := by
        have h1 : k.ks.length ≤ (LK.take i).length := by
          unfold kbsL at hkk
          rw [List.getElem?_map, List.getElem?_range hjS] at hkk
          simp only [Option.map_some, Option.some.injEq] at hkk
          rw [← hkk]
          exact List.length_filter_le _ _
        rw [List.length_take] at h1
        omega
      have Hsn := Lib.hid hsn
      have hnT : ∀ q, q < w.heap.size → ¬ (q = go ∨ w3.heap.size ≤ q) := fun q h1 h2 => by rcases h2 with h2 | h2 <;> omega
      have hlook := (HStore.out.map.only HO.out (hnT mb hml)).look_enc x (by unfold maxLen; omega)
      have s1 : wr.cell? ⟨s, 1, none⟩ = some (.map (some mb)) := (HO.out.blk HStore.out.blk (hnT s hsl)).cell 1
      obtain ⟨f, hf⟩ : ∃ f, f = svAt M x := ⟨_, rfl⟩
      rw [← hf] at hlook hj
      obtain ⟨sec, fg, fn, fc, fx⟩ := f
      simp only at hj
      subst hj
      unfold Sv.v at hlook
      simp only at hlook
      have hfld := stand_field0 (j : Int) (.slice (adr fg) fn fc)
      obtain ⟨d0, e0, hgl⟩ := HKK.out.outer.cell1 hk rfl
      have hwrs : w3.heap.size ≤ wr.heap.size := HO.out.size
      have hal := (Below.refl wr.heap.size wr).alloc (Nat.le_refl _) (.cells #[encStr x] 9)
      have HKa := Lib.hid (HKK.out.below hal)
      have Hstr := Lib.hid (str_lit x wr)
      have Hk := Lib.hid hk
      have HKl := Lib.hid HKs.out.1
      have HO4 := Lib.hid (HO.out.trans (Only.of_below (S := fun q => q = go ∨ w3.heap.size ≤ q) hal))
      have hjS0 : (0 : Int) ≤ (j : Int) := by omega
      have hjS1 : (j : Int) < (S : Int) := by omega
      clear hx hmem htk hkk hsn hf hc hal hk
      go_wp2_with (at_builtin; refine wpList_append_strs rfl _ _ rfl w3.heap.size k.A k.ks.length k.cap k.ks rfl (HKa.out.inner j k Hk.out) _ 1 1 [x] rfl Hstr.out (fun h => by cases h) (by omega) (by simp; omega) ?_; intro A4 c4 w4 hg4 hgr4 hr4 hl4; obtain ⟨d4, e4, hgl4⟩ := (HKa.out.grow rfl Hk.out hgr4).cell1 Hk.out rfl)
      have hput := HKa.out.put rfl Hk.out hg4 rfl hgr4 (hl4.imp id (fun h => ⟨_, h, Nat.le_refl _⟩))
      have HO5 := Lib.hid ((HO4.out.trans (Only.of_grown hgr4 (fun q e _ => Or.inr (hr4 q e)))).trans ((Only.refl (fun q => q = go ∨ w3.heap.size ≤ q) w4).setCell (p := ⟨go, j, none⟩) (Or.inl (Or.inl rfl)) (.slice A4 (k.ks.length + 1) c4)))
      have Hput := Lib.hid hput
      clear hput hg4 hgr4 hr4 hl4
      go_roundw
      case rel =>
        refine ⟨i + 1, _, by omega, by simp, Hput, Lib.hid ⟨by rw [List.length_set]; exact HKl.out, ?_⟩, HO5⟩
        rw [Hsn.out, List.map_set, HKs.out.2]
      case measure => simp [intOf]; omega
    · have hin : i = n3 := by omega
      subst hin
      have ht : LK.take i = LK := List.take_of_length_le (by omega)
      rw [ht, HLK.out] at HKs
      go_wp2_with fail
      go_ret
      exact ⟨⟨_, _, K, _, rfl, HKK.out, HKs.out.1, HKs.out.2, HO.out.size⟩, Hb3.out.trans (HO.out.below (by have := Hb3.out.size; omega) (fun q h1 h2 => by rcases h2 with h2 | h2 <;> omega))⟩

end Go.Proofs.YtnhfmcijadficaaGreatDoor

/- The walk over a plan's fitting. -/
namespace Go.Proofs.YtnhfmcijadficaaGreatDoor
set_option maxRecDepth 100000
open Go.RowKit Go.Maps

/-- The put of a key's blob. -/
def keyCh (M : Al Sv) (k : List UInt8) : Ch := ⟨false, ⟨k.toArray⟩, adr (svAt M k).g, (svAt M k).n, (svAt M k).cap, (svAt M k).xs⟩
/-- The first keys for whose puts a head has room. -/
def fitL (M : Al Sv) (h : HeadV) : Nat → List (List UInt8) → List (List UInt8)
  | _, [] => []
  | room, k :: ks => if takesB h ((room + (keyCh M k).sz : Nat) : Int) then k :: fitL M h (room + (keyCh M k).sz) ks else []
def fit (M : Al Sv) (h : HeadV) (ks : List (List UInt8)) : List (List UInt8) := fitL M h 16 (ks.take 16)

theorem chg_len (f : Ch) : f.cells.length = 3 := rfl
theorem chg_one (f : Ch) : ∀ v ∈ f.cells, v.oneCell' = true := by
  intro v hv
  simp only [Ch.cells, List.mem_cons, List.not_mem_nil, or_false] at hv
  rcases hv with rfl | rfl | rfl <;> rfl
theorem Tryz.infoChange : (Tryz.prog.info? 37).map (fun i => (i.zero, i.size, i.bytes)) = some (some (.agg #[.bool false, .string ⟨#[]⟩, .slice none 0 0]), 3, 48) := by kernel_rfl

theorem wpList_append_chg {ops : Array Oper} {rest : List Oper} {q : Oper} {u : Act} {w : World} {S : Nat → Prop} {Q : Exit → Act → World → Prop} (hgd : q.guard = none) (s x : Operand) (hq : q.op = .call { callee := .builtin .append, args := #[s, x], argTypes := #[38, 38] })
    (base : Nat) (B : Option Addr) (m0 c0 : Nat) (zs : List Ch) (hs : u.eval s = .slice B m0 c0) (hown : GotR Ch.cells 3 37 base w B m0 c0 zs) (A : Option Addr) (m c : Nat) (l : List Ch)
    (hx : u.eval x = .slice A m c) (hB : RowSl Ch.cells 3 w S A m c l) (hn : A = none → m = 0 ∧ c = 0) (hm : m0 + m ≤ 16777216) (hbase : base ≤ w.heap.size)
    (h : ∀ A' c' w', GotR Ch.cells 3 37 base w' A' (m0 + m) c' (zs ++ l) → w.grownBy w' (Value.slice B m0 c0).ownBlock → (∀ g, (Value.slice B m0 c0).ownBlock = some g → base ≤ g) → wpList Tryz.prog ops Q rest (u.put q.dst (.slice A' (m0 + m) c')) w') : wpList Tryz.prog ops Q (q :: rest) u w :=
  wpList_append_rows chg_len chg_one (by decide) 38 37 _ 48 Tryz.underlying38 Tryz.infoChange (by simp [Value.cells]) (by decide) hgd s x hq base B m0 c0 zs hs hown A m c l hx hB hn hm hbase (fun A' c' w' h1 h2 h3 _ => h A' c' w' h1 h2 h3)

theorem fit_sz {M : Al Sv} (hF : FairM M) (k : List UInt8) (hk : k.length ≤ 64) : (keyCh M k).sz ≤ 4176 ∧ (keyCh M k).s.size ≤ 64 ∧ (keyCh M k).rN ≤ 4096 := by
  have h1 := svAt_fair hF k
  have h2 : (keyCh M k).s.size = k.length := by simp [keyCh, ByteArray.size]
  have h3 : (keyCh M k).rN = (svAt M k).n := rfl
  unfold Ch.sz
  rw [h2, h3]
  omega

set_option maxHeartbeats 2000000 in
theorem fitting_any (g base p mb Z : Nat) (vk : Value) (R : PP) (P : PV) (nM : Nat) (M : Al Sv) (A : Option Addr) (n cap : Nat) (ks : List (List UInt8)) (w : World) (hP : PlanAt w g base p mb Z vk R P) (hM : StM w mb nM M) (hF : FairM M) (hK : RowSl strC 1 w Empty A n cap ks) (hA : A = none → n = 0 ∧ cap = 0) (hk : ∀ k ∈ ks, k.length ≤ 64) :
    Calls Tryz.prog 191 #[.pointer (some ⟨g, 0, none⟩), .slice A n cap] w fun e1 w' => (∃ A' cap', e1 = .returned (.slice A' (fit M P.h ks).length cap') ∧ GotR Ch.cells 3 37 w.heap.size w' A' (fit M P.h ks).length cap' ((fit M P.h ks).map (keyCh M))) ∧ Below w.heap.size w w' := by
  have HP := Lib.hid hP
  have HM := Lib.hid hM
  have HF := Lib.hid hF
  have HK := Lib.hid hK
  have HA := Lib.hid hA
  have Hk := Lib.hid hk
  have hcap : n ≤ cap := hK.2.1
  have hcap2 : cap ≤ 9223372036854775807 := by have := hK.2.2.1; unfold maxLen at this; omega
  have hlen := hK.1
  obtain ⟨m, hm⟩ : ∃ m, m = min n 16 := ⟨_, rfl⟩
  have hmn : m ≤ n ∧ m ≤ 16 := by omega
  have e1 : min (n : Int) 16 = (m : Int) := by omega
  have e2 : max (m : Int) 0 = (m : Int) := by omega
  obtain ⟨h, hh⟩ : ∃ h, h = P.h := ⟨_, rfl⟩
  rw [← hh]
  have Hfit : Hid (fit M h ks = fitL M h 16 (ks.take m)) := Lib.hid (by
    unfold fit
    by_cases hn : n ≤ 16
    · rw [List.take_of_length_le (by omega), List.take_of_length_le (by omega)]
    · rw [show m = 16 by omega])
  have Hh := Lib.hid hh
  clear hP hM hF hK hk hA hlen hm hh
  go_enter Tryz.func191, Tryz.ntmps191
  go_wp2_with fail
  refine (roomOf_any none 0 0 [] w (Chs.nil_ _ _ _ _ (by unfold maxLen; omega)) (fun _ h => by cases h) (by omega)).mono ?_
  rintro e1 w1 ⟨rfl, hb1⟩
  have Hb1 := Lib.hid hb1
  clear hb1
  go_wp2_with fail
  go_loopw [5, 6, 17] (fun a r v wr => ∃ (i : Nat) (A' : Option Addr) (c' : Nat), i ≤ m ∧ v = .int .i64 (i : Int) ∧ a = .slice A' i c' ∧ r = .int .i64 (roomL ((ks.take i).map (keyCh M)) : Int) ∧ Hid (GotR Ch.cells 3 37 w.heap.size wr A' i c' ((ks.take i).map (keyCh M))) ∧
    Hid (fit M h ks = ks.take i ++ fitL M h (roomL ((ks.take i).map (keyCh M))) ((ks.take m).drop i)) ∧ Hid (Below w.heap.size w wr)) (fun _ _ v _ => m - (intOf v).toNat)
  case atStart => exact ⟨0, none, 0, Nat.zero_le _, rfl, rfl, by simp, Lib.hid (GotR.nil_ _ _ _ _ _), Lib.hid (by rw [Hfit.out]; simp [roomL]), Hb1⟩
  case round =>
    obtain ⟨i, A', c', hi, rfl, rfl, rfl, HG, HE, HB⟩ := hrel
    by_cases hlt : i < m
    · obtain ⟨b, o, x, rfl, hb, -, hx, hc⟩ := (HK.out.below HB.out).at_ (i := i) (by omega)
      have d0 := hc 0 (by omega)
      simp only [strC, List.getElem?_cons_zero, Nat.mul_one, Nat.add_zero] at d0
      have hx64 := Hk.out x (List.mem_of_getElem? hx)
      have htk := take_snoc ks i x hx
      have hdr : (ks.take m).drop i = x :: (ks.take m).drop (i + 1) := by
        rw [List.drop_eq_getElem_cons (by rw [List.length_take]; have := HK.out.1; omega)]
        congr 1
        rw [List.getElem_take]
        obtain ⟨h1, h2⟩ := List.getElem?_eq_some_iff.1 hx
        exact h2
      have hsum := roomL_snoc ((ks.take i).map (keyCh M)) (keyCh M x)
      rw [show (ks.take i).map (keyCh M) ++ [keyCh M x] = (ks.take (i + 1)).map (keyCh M) by rw [htk, List.map_append]; rfl] at hsum
      have hsz := fit_sz HF.out x hx64
      have hle := roomL_le ((ks.take i).map (keyCh M)) (fun f hf => by
        obtain ⟨y, hy, rfl⟩ := List.mem_map.1 hf
        exact (fit_sz HF.out y (Hk.out y (List.mem_of_mem_take hy))).2)
      rw [List.length_map, List.length_take] at hle
      have hlook := (HM.out.only (Only.of_below (S := Empty) HB.out) (fun h => h)).look_enc x (by unfold maxLen; omega)
      have Hrec : Hid (∀ W, Calls Tryz.prog 90 #[(keyCh M x).v, .int .u32 0] W fun e w' => e = .returned (recV (keyCh M x) 0) ∧ Below W.heap.size W w') := Lib.hid (fun W => chRec_any (keyCh M x) 0 W)
      have hszd : (keyCh M x).sz = (⟨x.toArray⟩ : ByteArray).size + (svAt M x).n + 16 := rfl
      have hs1 : (⟨x.toArray⟩ : ByteArray).size = x.length := by simp [ByteArray.size]
      have hfn : (svAt M x).n ≤ 4096 := svAt_fair HF.out x
      have hrow := RowSl.lit chg_len
      obtain ⟨SZ, hSZ⟩ : ∃ SZ, SZ = (keyCh M x).sz := ⟨_, rfl⟩
      rw [← hSZ] at hsum hsz hszd
      unfold keyCh Ch.v recV Ch.rk Ch.rA Ch.rN Ch.rC at Hrec
      obtain ⟨f, hf⟩ : ∃ f, f = svAt M x := ⟨_, rfl⟩
      have Hf := Lib.hid hf
      rw [← hf] at hlook Hrec hszd hfn
      obtain ⟨fsec, fg, fn, fc, fx⟩ := f
      unfold Sv.v at hlook
      simp only at hlook Hrec hszd hfn
      have hfld := stand_field1 fsec (adr fg) fn fc
      have hPB := HP.out.below HB.out
      have c1 : wr.cell? ⟨g, 1, none⟩ = some (.map (some mb)) := hPB.blk.cell 1
      have hgl := hPB.blk.lt
      obtain ⟨RM, hRM⟩ : ∃ RM, RM = roomL ((ks.take i).map (keyCh M)) := ⟨_, rfl⟩
      rw [← hRM] at HE hsum hle
      have HRM := Lib.hid hRM
      have Hsz := Lib.hid hSZ
      have Hszd := Lib.hid hszd
      have Hsum := Lib.hid hsum
      have Htk := Lib.hid htk
      have Hdr := Lib.hid hdr
      have hSZb : SZ ≤ 4176 := hsz.1
      have hRMb : RM ≤ 100000 := by omega
      rw [← hRM]
      clear hc hx htk hdr hsum hle hszd hf hPB hRM hSZ hsz hrow
      go_wp2_with fail
      have hal := (Below.refl wr.heap.size wr).alloc (Nat.le_refl _) (.cells #[.bool false, .string ⟨x.toArray⟩, .slice (adr fg) fn fc] 37)
      have hbx := Blk.new wr 37 #[.bool false, .string ⟨x.toArray⟩, .slice (adr fg) fn fc]
      refine (Hrec.out _).mono ?_
      rintro e2 w2 ⟨rfl, hb2⟩
      have hbx2 := hbx.of (hb2.block _ hbx.lt)
      have HB2 := Lib.hid (HB.out.trans ((hal.trans (hb2.mono hal.size)).mono HB.out.size))
      have HBr := Lib.hid (hal.trans (hb2.mono hal.size))
      have Hbx2 := Lib.hid hbx2
      clear hal hbx hb2 hbx2
      simp only [Bool.false_eq_true, if_false]
      have Hsize := Lib.hid (rcSize_any 1 0 0 ⟨x.toArray⟩ (adr fg) fn fc w2 (by omega) (by omega))
      rw [← Hszd.out] at Hsize
      go_wp2_with fail
      refine Hsize.out.mono ?_
      rintro e3 w3 ⟨rfl, hb3⟩
      have HB3 := Lib.hid (HB2.out.trans (hb3.mono HB2.out.size))
      have HBr3 := Lib.hid (HBr.out.trans (hb3.mono HBr.out.size))
      have HP3 := Lib.hid (HP.out.below HB3.out)
      have Hbx3 := Lib.hid (Hbx2.out.of (hb3.block _ Hbx2.out.lt))
      have q4 : w3.cell? ⟨g, 4, none⟩ = some (.int .i64 h.sec) := by rw [Hh.out]; exact HP3.out.blk.cell 4
      have q5 : w3.cell? ⟨g, 5, none⟩ = some (.int .i64 h.next) := by rw [Hh.out]; exact HP3.out.blk.cell 5
      have q6 : w3.cell? ⟨g, 6, none⟩ = some (.int .i64 h.left) := by rw [Hh.out]; exact HP3.out.blk.cell 6
      have q7 : w3.cell? ⟨g, 7, none⟩ = some (.int .u32 h.txn) := by rw [Hh.out]; exact HP3.out.blk.cell 7
      have hgl3 := HP3.out.blk.lt
      have Htk2 := Lib.hid (takes_any h ((RM : Int) + (SZ : Int)) w3)
      unfold HeadV.v at Htk2
      have Hfl : Hid (fitL M h RM ((ks.take m).drop i) = if takesB h ((RM : Int) + (SZ : Int)) then x :: fitL M h (RM + SZ) ((ks.take m).drop (i + 1)) else []) := Lib.hid (by
        rw [Hdr.out]
        show (if takesB h ((RM + (keyCh M x).sz : Nat) : Int) then x :: fitL M h (RM + (keyCh M x).sz) ((ks.take m).drop (i + 1)) else []) = _
        rw [← Hsz.out]
        congr 1)
      clear hb3 c1 d0
      go_wp2_with fail
      refine Htk2.out.mono ?_
      rintro e4 w4 ⟨rfl, hb4⟩
      have HB4 := Lib.hid (HB3.out.trans (hb4.mono HB3.out.size))
      have HBr4 := Lib.hid (HBr3.out.trans (hb4.mono HBr3.out.size))
      have hb4x := Hbx3.out.of (hb4.block _ Hbx3.out.lt)
      have k0 := hb4x.cell 0
      have k1 := hb4x.cell 1
      have k2 := hb4x.cell 2
      simp at k0 k1 k2
      have hgxl := hb4x.lt
      clear hb4 hb4x q4 q5 q6 q7 hgl3
      cases htb : takesB h ((RM : Int) + (SZ : Int))
      · have Hfl2 : Hid (fitL M h RM ((ks.take m).drop i) = []) := Lib.hid (by rw [Hfl.out, htb]; rfl)
        go_wp2_with fail
        go_ret
        have hfi : fit M h ks = ks.take i := by rw [HE.out, Hfl2.out, List.append_nil]
        have hl : (ks.take i).length = i := by rw [List.length_take]; have := HK.out.1; omega
        refine ⟨⟨A', c', ?_, ?_⟩, HB4.out⟩
        · rw [hfi, hl]
          first | done | rfl
        · rw [hfi, hl]
          exact HG.out.below chg_len HBr4.out
      · have Hfl2 : Hid (fitL M h RM ((ks.take m).drop i) = x :: fitL M h (RM + SZ) ((ks.take m).drop (i + 1))) := Lib.hid (by rw [Hfl.out, htb]; rfl)
        have Hg4 := Lib.hid (HG.out.below chg_len HBr4.out)
        have hal4 := (Below.refl w4.heap.size w4).alloc (Nat.le_refl _) (.cells #[.bool false, .string ⟨x.toArray⟩, .slice (adr fg) fn fc] 37)
        have Hg5 := Lib.hid (Hg4.out.below chg_len hal4)
        have HB5 := Lib.hid (HB4.out.trans (hal4.mono HB4.out.size))
        have Hrow5 := Lib.hid (RowSl.lit chg_len w4 Empty 37 [keyCh M x] 1 [.bool false, .string ⟨x.toArray⟩, .slice (adr fg) fn fc] (by
          simp only [List.flatMap_cons, List.flatMap_nil, List.append_nil, Ch.cells, keyCh]
          rw [← Hf.out]) rfl (by decide) (fun h => h))
        clear hal4 Hfl
        go_wp2_with (at_builtin; refine wpList_append_chg rfl _ _ rfl w.heap.size A' i c' _ rfl Hg5.out _ 1 1 [keyCh M x] rfl Hrow5.out (fun h => by cases h) (by omega) HB5.out.size ?_; intro A6 c6 w6 hg6 hgr6 hro6)
        have HG6 := Lib.hid hg6
        have HB6 := Lib.hid (below_gotR HB5.out HB5.out.size hgr6 hro6 (Nat.le_refl _))
        clear hg6 hgr6 hro6
        go_roundw
        case rel =>
          refine ⟨i + 1, A6, c6, by omega, by simp, rfl, by rw [Hsum.out]; simp, ?_, ?_, HB6⟩
          · refine Lib.hid ?_
            rw [Htk.out, List.map_append]
            exact HG6.out
          · refine Lib.hid ?_
            rw [HE.out, Hfl2.out, Hsum.out, Htk.out]
            simp
        case measure => simp [intOf]; omega
    · have hin : i = m := by omega
      subst hin
      go_wp2_with fail
      go_ret
      have hdr : (ks.take i).drop i = [] := List.drop_eq_nil_iff.2 (by rw [List.length_take]; omega)
      rw [hdr] at HE
      have hfi : fit M h ks = ks.take i := by rw [HE.out]; simp [fitL]
      have hl : (ks.take i).length = i := by rw [List.length_take]; have := HK.out.1; omega
      refine ⟨⟨A', c', ?_, ?_⟩, HB.out⟩
      · rw [hfi, hl]
        first | done | rfl
      · rw [hfi, hl]
        exact HG.out

end Go.Proofs.YtnhfmcijadficaaGreatDoor

/- All that a plan stands on, in one: its rows, its keys, the store's map, the flash, the lists of its steps. -/
namespace Go.Proofs.YtnhfmcijadficaaGreatDoor
set_option maxRecDepth 100000
open Go.RowKit Go.Maps

/-- The types of the blocks that making room turns. -/
def EPK (t : TypeId) : Prop := EP t ∨ t = 67 ∨ t = 9
structure PQ (g base : Nat) (w w' : World) : Prop where
  only : Only (PlanT g base) w w'
  keep : Keep EPK w w'
theorem PQ.trans {g base : Nat} {a b c : World} (h : PQ g base a b) (k : PQ g base b c) : PQ g base a c := ⟨h.only.trans k.only, h.keep.trans k.keep⟩
theorem PO.pq {g base : Nat} {a b : World} (h : PO g base a b) : PQ g base a b := ⟨h.only, h.keep.mono (fun _ h => Or.inl h)⟩
theorem PQ.of_below {g base : Nat} {a b : World} (h : Below a.heap.size a b) : PQ g base a b := (PO.of_below h).pq
theorem PQ.refl (g base : Nat) (a : World) : PQ g base a a := (PO.refl _ _ _).pq
theorem PQ.size {g base : Nat} {a b : World} (h : PQ g base a b) : a.heap.size ≤ b.heap.size := h.only.size

theorem GotR.keep {α : Type} {cells : α → List Value} {k n cap base : Nat} {t : TypeId} {w w' : World} {A : Option Addr} {l : List α} {E : TypeId → Prop} (hk : ∀ f, (cells f).length = k) (h : GotR cells k t base w A n cap l) (hK : Keep E w w') (hE : ¬ E t) : GotR cells k t base w' A n cap l := by
  have hown : w'.ownsRow base t k (.slice A n cap) n (l.flatMap cells) := by
    refine ⟨h.own.1, ?_⟩
    rcases h.own.2 with h0 | ⟨g, cap', cur', e, hg, hb, h1, h2, h3, h4⟩
    · exact Or.inl h0
    · have hb2 : Blk w g t cur' := hb
      exact Or.inr ⟨g, cap', cur', e, hg, hK g t cur' hb2 hE, h1, h2, h3, h4⟩
  obtain ⟨A', c', he, hG⟩ := GotR.of_own hk hown h.row.1
  cases he
  exact hG

theorem KeysAt.keep {w w' : World} {base bi cap : Nat} {A : Option Addr} {K : List Kr} {E : TypeId → Prop} (h : KeysAt w base bi A cap K) (hK : Keep E w w') (h1 : ¬ E 67) (h2 : ¬ E 9) : KeysAt w' base bi A cap K :=
  ⟨h.le, h.outer.keep kr_len hK h1, fun i k hk => (h.inner i k hk).keep strC_len hK h2, h.apart⟩

/-- What lies beside a step that a plan has made. -/
def StAt (w : World) (base : Nat) (M : Al Sv) : Stp → Prop
  | .lay _ _ _ A n cap l => GotR Ch.cells 3 37 base w A n cap l ∧ ∃ F : List (List UInt8), l = F.map (keyCh M)
  | _ => True
theorem ep_change : ¬ EPK 37 := by unfold EPK EP; decide
theorem StAt.pq {w w' : World} {g base : Nat} {M : Al Sv} {s : Stp} (h : StAt w base M s) (k : PQ g base w w') : StAt w' base M s := by
  cases s with
  | lay k0 o t A n cap l => exact ⟨h.1.keep chg_len k.keep ep_change, h.2⟩
  | _ => trivial

structure PW (w : World) (g base bi p c e mb Z L : Nat) (ss : List (Nat × List UInt8)) (nM : Nat) (M : Al Sv) (KA : Option Addr) (kn kcap : Nat) (R : PP) (P : PV) (K : List Kr) : Prop where
  plan : PlanAt w g base p mb Z (.slice KA kn kcap) R P
  keys : KeysAt w base bi KA kcap K
  kn : K.length = kn
  map : StM w mb nM M
  bl : BlobsAt w (PlanT g base) M
  fs : FS w p c e Z L ss
  sts : ∀ s ∈ P.sts, StAt w base M s

/-- What stays while room is made. -/
structure PC (g base p c e mb Z L : Nat) (ss : List (Nat × List UInt8)) (M : Al Sv) : Prop where
  three : ∀ q, Three p c e q → q < base ∧ q ≠ g
  mb : mb < base ∧ mb ≠ g
  fair : FairM M

section
variable {w w' : World} {g base bi p c e mb Z L nM kn kcap : Nat} {ss : List (Nat × List UInt8)} {M : Al Sv} {KA : Option Addr} {R R' : PP} {P P' : PV} {K : List Kr}
theorem PW.pq_ (h : PW w g base bi p c e mb Z L ss nM M KA kn kcap R P K) (C : PC g base p c e mb Z L ss M) (k : PQ g base w w') {K' : List Kr} (hP : PlanAt w' g base p mb Z (.slice KA kn kcap) R' P') (hK : KeysAt w' base bi KA kcap K') (hl : K'.length = kn) (hs : ∀ s ∈ P'.sts, s ∈ P.sts ∨ StAt w' base M s) : PW w' g base bi p c e mb Z L ss nM M KA kn kcap R' P' K' := by
  have hm : ¬ PlanT g base mb := fun h2 => by
    have := C.mb
    rcases h2 with h2 | h2 <;> omega
  refine ⟨hP, hK, hl, h.map.only k.only hm, h.bl.only k.only (fun _ _ h => h), ?_, fun s hs2 => ?_⟩
  · have hn : ∀ q, Three p c e q → ¬ PlanT g base q := fun q h1 h2 => by
      have := C.three q h1
      rcases h2 with h2 | h2 <;> omega
    exact h.fs.of k.only (hn p (Or.inl rfl)) (hn c (Or.inr (Or.inl rfl))) (hn e (Or.inr (Or.inr rfl)))
  · rcases hs s hs2 with h1 | h1
    · exact (h.sts s h1).pq k
    · exact h1
theorem PW.po (h : PW w g base bi p c e mb Z L ss nM M KA kn kcap R P K) (C : PC g base p c e mb Z L ss M) (k : PO g base w w') (hP : PlanAt w' g base p mb Z (.slice KA kn kcap) R' P') (hs : ∀ s ∈ P'.sts, s ∈ P.sts ∨ StAt w' base M s) : PW w' g base bi p c e mb Z L ss nM M KA kn kcap R' P' K :=
  h.pq_ C k.pq hP (h.keys.keep k.keep (by unfold EP; decide) (by unfold EP; decide)) h.kn hs
theorem PW.below (h : PW w g base bi p c e mb Z L ss nM M KA kn kcap R P K) (C : PC g base p c e mb Z L ss M) (k : Below w.heap.size w w') : PW w' g base bi p c e mb Z L ss nM M KA kn kcap R P K :=
  h.po C (PO.of_below k) (h.plan.below k) (fun s hs => Or.inl hs)
end

/-- A row of keys that was taken out of the plan's. -/
structure KRow (w : World) (K : List Kr) (A : Option Addr) (n cap : Nat) (ks : List (List UInt8)) : Prop where
  row : RowSl strC 1 w Empty A n cap ks
  isNil : A = none → n = 0 ∧ cap = 0
  blk : A = none ∨ ∃ kb o cur, A = some ⟨kb, o, none⟩ ∧ Blk w kb 9 cur ∧ ∀ k ∈ K, k.A ≠ some ⟨kb, 0, none⟩

theorem RowSl.take_ {α : Type} {cells : α → List Value} {k : Nat} {w : World} {S : Nat → Prop} {A : Option Addr} {n cap : Nat} {l : List α} (h : RowSl cells k w S A n cap l) {i : Nat} (hi : i ≤ n) : RowSl cells k w S A i cap (l.take i) := by
  refine ⟨by rw [List.length_take, h.1]; omega, by have := h.2.1; omega, h.2.2.1, fun h0 => ?_⟩
  obtain ⟨b, o, e, hb, hs, hc⟩ := h.2.2.2 (by omega)
  refine ⟨b, o, e, hb, hs, fun j f hf => hc j f ?_⟩
  rw [List.getElem?_take] at hf
  split at hf
  · exact hf
  · cases hf
theorem RowSl.drop_ {α : Type} {cells : α → List Value} {k : Nat} {w : World} {S : Nat → Prop} {b o n cap : Nat} {l : List α} (h : RowSl cells k w S (some ⟨b, o, none⟩) n cap l) {i : Nat} (hi : i ≤ n) : RowSl cells k w S (some ⟨b, o + i * k, none⟩) (n - i) (cap - i) (l.drop i) := by
  refine ⟨by rw [List.length_drop, h.1], by have := h.2.1; omega, by have := h.2.2.1; omega, fun h0 => ?_⟩
  obtain ⟨b2, o2, e, hb, hs, hc⟩ := h.2.2.2 (by omega)
  cases e
  refine ⟨b, _, rfl, hb, hs, fun j f hf q hq => ?_⟩
  rw [List.getElem?_drop] at hf
  have h1 := hc (i + j) f hf q hq
  have e1 : o + i * k + j * k + q = o + (i + j) * k + q := by rw [Nat.add_mul]; omega
  rw [e1]
  exact h1

section
variable {w w' : World} {K K' : List Kr} {A : Option Addr} {n cap : Nat} {ks : List (List UInt8)}
theorem KRow.move (h : KRow w K A n cap ks) (hs : w.heap.size ≤ w'.heap.size) (hm : ∀ q cur, Blk w q 9 cur → (∀ k ∈ K, k.A ≠ some ⟨q, 0, none⟩) → Blk w' q 9 cur) (hK : ∀ k' ∈ K', (∃ k ∈ K, k'.A = k.A) ∨ k'.A = none ∨ ∃ q, k'.A = some ⟨q, 0, none⟩ ∧ w.heap.size ≤ q) : KRow w' K' A n cap ks := by
  rcases h.blk with rfl | ⟨kb, o, cur, rfl, hb, hne⟩
  · refine ⟨⟨h.row.1, h.row.2.1, h.row.2.2.1, fun h0 => ?_⟩, h.isNil, Or.inl rfl⟩
    have := (h.isNil rfl).1
    omega
  · have hb2 := hm kb cur hb hne
    refine ⟨⟨h.row.1, h.row.2.1, h.row.2.2.1, fun h0 => ?_⟩, h.isNil, Or.inr ⟨kb, o, cur, rfl, hb2, fun k' hk' he => ?_⟩⟩
    · obtain ⟨b2, o2, e, hb3, hs2, hc⟩ := h.row.2.2.2 h0
      cases e
      exact ⟨kb, o, rfl, hb2.lt, fun h => h, fun i f hf j hj => by rw [hb2.cell, ← hb.cell]; exact hc i f hf j hj⟩
    · rcases hK k' hk' with ⟨k, hk, e⟩ | e | ⟨q, e, hq⟩
      · exact hne k hk (by rw [← e]; exact he)
      · rw [e] at he; cases he
      · rw [e] at he
        cases he
        have := hb.lt
        omega
theorem KRow.keep {E : TypeId → Prop} (h : KRow w K A n cap ks) (hs : w.heap.size ≤ w'.heap.size) (hk : Keep E w w') (hE : ¬ E 9) : KRow w' K A n cap ks :=
  h.move hs (fun q cur hq _ => hk q _ cur hq hE) (fun k hk => Or.inl ⟨k, hk, rfl⟩)
theorem KRow.none_ (h : KRow w K A n cap ks) (hA : A ≠ none) : KRow w K A 0 0 [] := ⟨RowSl.nil_ _ _ _ _ (Nat.zero_le _), fun e => absurd e hA, h.blk⟩
theorem KRow.drop_ {b o : Nat} (h : KRow w K (some ⟨b, o, none⟩) n cap ks) {i : Nat} (hi : i ≤ n) : KRow w K (some ⟨b, o + i, none⟩) (n - i) (cap - i) (ks.drop i) := by
  have h1 := h.row.drop_ hi
  rw [Nat.mul_one] at h1
  refine ⟨h1, (fun h => by cases h), ?_⟩
  rcases h.blk with hn | ⟨kb, o2, cur, e, hb, hne⟩
  · cases hn
  · cases e
    exact Or.inr ⟨b, o + i, cur, rfl, hb, hne⟩
end

end Go.Proofs.YtnhfmcijadficaaGreatDoor
