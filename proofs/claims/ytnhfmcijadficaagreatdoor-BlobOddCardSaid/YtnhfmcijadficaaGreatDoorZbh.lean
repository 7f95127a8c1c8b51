/- What a scan finds may be records; a change is done wherever its blob lies; the walk over greatestTxn. -/
import Derived.Test.YtnhfmcijadficaaGreatDoorZbg
namespace Go.Proofs.YtnhfmcijadficaaGreatDoor
set_option maxRecDepth 100000
open Go.RowKit Go.Maps

/-- A copy of bytes, as a map keeps it. -/
theorem clone_sv0 (A : Option Addr) (n cap : Nat) (xs : List UInt8) (S : Nat → Prop) (w : World) (hB : ByteSl w Empty A n cap xs) (hA : A = none → n = 0 ∧ cap = 0) (hm : n ≤ 16777216) (hS : ∀ W, Below w.heap.size w W → ∀ q, w.heap.size ≤ q → q < W.heap.size → ¬ S q) :
    Calls Tryz.prog 67 #[.slice A n cap] w fun e w' => (∃ g cap', e = .returned (.slice (adr g) n cap') ∧ ByteSl w' S (adr g) n cap' xs ∧ (adr g = none → n = 0 ∧ cap' = 0)) ∧ Below w.heap.size w w' := by
  refine (clone_any A n cap xs w hB hA hm).mono ?_
  rintro e1 w1 ⟨⟨A1, cap1, rfl, hG⟩, hb⟩
  obtain ⟨A', cap', he, hB1, _⟩ := ByteSl.of_own (S := S) hG.own (fun q h1 h2 => hS w1 hb q h1 h2)
  cases he
  refine ⟨?_, hb⟩
  rcases hG.own.2 with ⟨he, h0⟩ | ⟨g, cap2, cur, he, _⟩
  · cases he
    exact ⟨none, 0, rfl, hB1, fun _ => ⟨h0, rfl⟩⟩
  · cases he
    exact ⟨some g, cap1, rfl, hB1, fun h => by cases h⟩

set_option maxHeartbeats 2000000 in
theorem apply_put0 (s mb p c e : Nat) (M : Al Sv) (h : HeadV) (d : Bool) (f : Ch) (sec : Int) (w : World) (hS : StoreAt w s mb p c e M h d) (hf : ByteSl w Empty f.A f.n f.cap f.blob ∧ (f.A = none → f.n = 0 ∧ f.cap = 0)) (hd : f.del = false) (hk : f.s.size ≤ 64) (hn : f.n ≤ 4096) (hM : M.length ≤ 1048576) (hlt : Three p c e s → False) (hlt2 : ∀ q, w.heap.size ≤ q → ¬ Mut s mb p c e q) :
    Calls Tryz.prog 50 #[.pointer (some ⟨s, 0, none⟩), f.v, .int .i64 sec] w fun e1 w' => Applied s mb p c e M h d f sec w w' e1 := by
  obtain ⟨dl, key, A, n, cap, xs⟩ := f
  simp only at hd hk hn hf
  subst hd
  unfold Ch.v
  have HS := Lib.hid hS
  have hb0 := (Below.refl w.heap.size w).alloc (Nat.le_refl _) (.cells #[.bool false, .string key, .slice A n cap] 37)
  have Hcl := Lib.hid (fun W (hW : Only Empty (w.alloc (.cells #[.bool false, .string key, .slice A n cap] 37)) W) => clone_sv0 A n cap xs (Mut s mb p c e) W (hf.1.only ((Only.of_below (S := Empty) hb0).trans hW) (fun _ _ h => h.elim)) hf.2 (by omega) (fun W2 _ q h1 _ => hlt2 q (by have := hW.size; simp at this; omega)))
  have hbox := Blk.new w 37 #[.bool false, .string key, .slice A n cap]
  have s1' : w.cell? ⟨s, 1, none⟩ = some (.map (some mb)) := hS.blk.cell 1
  have hsl : s < w.heap.size := hS.blk.lt
  have hne := hS.ne
  have hml : mb < w.heap.size := hS.map.lt
  have HSx : Hid (∀ W, Only (· = mb) (w.alloc (.cells #[.bool false, .string key, .slice A n cap] 37)) W → W.cell? ⟨s, 1, none⟩ = some (.map (some mb)) ∧ W.cell? ⟨w.heap.size, 1, none⟩ = some (.string key) ∧ W.cell? ⟨w.heap.size, 2, none⟩ = some (.slice A n cap)) := Lib.hid (fun W hW => by
    have h1 := hW.blk hbox (by omega)
    exact ⟨(hW.blk (hS.blk.alloc _) (fun h => hne h.symm)).cell 1, h1.cell 1, h1.cell 2⟩)
  have HM : Hid (∀ W, Only Empty (w.alloc (.cells #[.bool false, .string key, .slice A n cap] 37)) W → StM W mb M.length M) := Lib.hid (fun W hW => (hS.map.alloc _).only hW (fun h => h))
  have Hb0 := Lib.hid hb0
  have Hend : Hid (∀ (g : Option Nat) (cap' : Nat) (W1 W2 : World), Only Empty (w.alloc (.cells #[.bool false, .string key, .slice A n cap] 37)) W1 → ByteSl W1 (Mut s mb p c e) (adr g) n cap' xs ∧ (adr g = none → n = 0 ∧ cap' = 0) → StM W2 mb (M.length + 1) (aput M key.data.toList ⟨sec, g, n, cap', xs⟩) → Only (· = mb) W1 W2 →
      (∃ M', StoreAt W2 s mb p c e M' h d ∧ amap Sv.a M' = applyA (amap Sv.a M) ⟨false, key, A, n, cap, xs⟩ sec ∧ M'.length ≤ M.length + 1) ∧ Only (· = mb) w W2) := Lib.hid (fun g cap' W1 W2 h1 h2 h3 h4 => by
    have h0 := (Only.of_below (S := Empty) hb0).trans h1
    have h5 : Only (· = mb) w W2 := (h0.mono (T := (· = mb)) (fun _ _ h => h.elim)).trans h4
    refine ⟨⟨_, ⟨h5.blk hS.blk (fun h => hne h.symm), h3.tight, ?_⟩, ?_, aput_len _ _ _⟩, h5⟩
    · exact BlobsAt.put (hS.bl.only h5 (fun i _ h => Or.inr (Or.inl h))) _ _ ⟨h2.1.only h4 (fun i _ h => Or.inr (Or.inl h)), h2.2⟩
    · rw [aput_map]
      rfl)
  have hk2 : Hid (key.size ≤ maxLen) := Lib.hid (by unfold maxLen; omega)
  have hM2 : Hid (M.length < maxLen) := Lib.hid (by unfold maxLen; omega)
  clear hS hf hlt2 hbox hb0
  go_enter Tryz.func50, Tryz.ntmps50
  go_wp2_with fail
  have hD : Only Empty (w.alloc (.cells #[.bool false, .string key, .slice A n cap] 37)) (w.alloc (.cells #[.bool false, .string key, .slice A n cap] 37)).drew := (Only.refl _ _).drew
  have hs1 := HSx.out _ (hD.mono (fun _ _ h => h.elim))
  have HD := Lib.hid hD
  clear hD
  go_region_held3 (fun W => W.cell? ⟨s, 1, none⟩ = some (.map (some mb)) ∧ W.cell? ⟨w.heap.size, 1, none⟩ = some (.string key) ∧ W.cell? ⟨w.heap.size, 2, none⟩ = some (.slice A n cap)) (first | with_reducible exact hs1 | with_reducible exact hs10 | with_reducible exact hs11)
    ((go_at_call 67; (with_reducible refine (Hcl.out _ HD.out).mono ?_); rintro e10 w10 ⟨⟨g10, cap10, rfl, hG10⟩, hb10⟩; have hO10 := HD.out.trans (Only.of_below (S := Empty) hb10); have hs10 := HSx.out _ (hO10.mono (fun _ _ h => h.elim)); obtain ⟨w11, hr11, hm11, ho11⟩ := (HM.out _ hO10).put_run hM2.out key hk2.out ⟨sec, g10, n, cap10, xs⟩; unfold Sv.v at hr11; simp only at hr11; have hs11 := HSx.out _ ((hO10.mono (fun _ _ h => h.elim)).trans ho11)))
  go_wp2
  go_end0
  exact ⟨rfl, Hend.out g10 cap10 w10 w11 hO10 hG10 hm11 ho11⟩

/-- A change is done, wherever its blob lies. -/
theorem apply0_any (s mb p c e : Nat) (M : Al Sv) (h : HeadV) (d : Bool) (f : Ch) (sec : Int) (w : World) (hS : StoreAt w s mb p c e M h d) (hf : ByteSl w Empty f.A f.n f.cap f.blob ∧ (f.A = none → f.n = 0 ∧ f.cap = 0)) (hF : f.s.size ≤ 64 ∧ f.rN ≤ 4096) (hM : M.length ≤ 1048576) (hlt : Three p c e s → False) (hlt2 : ∀ q, w.heap.size ≤ q → ¬ Mut s mb p c e q) :
    Calls Tryz.prog 50 #[.pointer (some ⟨s, 0, none⟩), f.v, .int .i64 sec] w fun e1 w' => Applied s mb p c e M h d f sec w w' e1 := by
  cases hd : f.del
  · refine apply_put0 s mb p c e M h d f sec w hS hf hd hF.1 ?_ hM hlt hlt2
    have := hF.2
    unfold Ch.rN at this
    rw [hd] at this
    exact this
  · exact apply_del s mb p c e M h d f sec w hS hd hF.1


/-- A record that is whole may be one. -/
theorem out_may {ys : List UInt8} (h : (out ys).whole = true) : mayB ((out ys).k : Int) ((out ys).t : Int) ((out ys).key.length : Int) ((out ys).blob.length : Int) ((out ys).c : Int) = true ∧ (out ys).t ≤ 4294967295 := by
  unfold out at h ⊢
  by_cases h1 : pE ys = 0
  · rw [if_pos h1] at h ⊢
    by_cases h2 : sumOk ys = true
    · rw [if_pos h2] at h ⊢
      have h3 : hdE ys = 0 ∧ ¬ ys.length < szOf ys := by
        unfold pE at h1
        by_cases h4 : hdE ys = 0
        · rw [if_pos h4] at h1
          refine ⟨h4, fun h5 => ?_⟩
          rw [if_pos h5] at h1
          cases h1
        · rw [if_neg h4] at h1
          exact absurd h1 h4
      have h4 := (head_facts h3.1).2.2.2
      have h5 := h3.2
      unfold szOf at h5
      have h6 : ((ys.drop 11).take (nA ys)).length = nA ys := by rw [List.length_take, List.length_drop]; omega
      have h7 : ((ys.drop (11 + nA ys)).take (nB ys)).length = nB ys := by rw [List.length_take, List.length_drop]; omega
      simp only
      rw [h6, h7]
      refine ⟨h4, ?_⟩
      unfold nT
      have h8 := getV_lt ((ys.drop 1).take 4)
      have h9 : ((ys.drop 1).take 4).length ≤ 4 := by rw [List.length_take]; omega
      have h10 : 256 ^ ((ys.drop 1).take 4).length ≤ 256 ^ 4 := Nat.pow_le_pow_right (by omega) h9
      have h11 : (256 : Nat) ^ 4 = 4294967296 := by decide
      omega
    · rw [if_neg h2] at h
      cases h
  · rw [if_neg h1] at h
    cases h
/-- A found record that may be one. -/
def FD.okD (d : FD) : Prop := mayB d.k (d.t : Int) (d.key.length : Int) (d.blob.length : Int) d.c = true ∧ d.t ≤ 4294967295
theorem Runs.oks {xs : List UInt8} {en pl to : Nat} {c c' : Bool} {L : List FD} (h : Runs xs en pl c L to c') : ∀ d ∈ L, d.okD := by
  induction h with
  | stop => exact fun d hd => (by cases hd)
  | bad => exact fun d hd => (by cases hd)
  | go pl c l to c' h1 h2 _ ih =>
    intro d hd
    rcases List.mem_append.1 hd with h3 | h3
    · by_cases hw : (out (xs.drop pl)).whole = true
      · rw [if_pos hw, List.mem_singleton] at h3
        subst h3
        exact out_may hw
      · rw [if_neg hw] at h3
        cases h3
    · exact ih d h3
theorem Runs.few {xs : List UInt8} {en pl to : Nat} {c c' : Bool} {L : List FD} (h : Runs xs en pl c L to c') (hp : pl ≤ xs.length) : L.length * 16 + pl ≤ xs.length ∧ to ≤ xs.length ∧ pl ≤ to := by
  induction h with
  | stop pl c _ => exact ⟨by simpa using hp, hp, Nat.le_refl _⟩
  | bad pl c _ _ => exact ⟨by simpa using hp, Nat.le_refl _, hp⟩
  | go pl c l to c' h1 h2 _ ih =>
    have h3 := out_size h2
    rw [List.length_drop] at h3
    obtain ⟨i1, i2, i3⟩ := ih (by omega)
    refine ⟨?_, i2, by omega⟩
    rw [List.length_append, Nat.add_mul]
    have : (if (out (xs.drop pl)).whole = true then [fdOf pl (out (xs.drop pl))] else []).length ≤ 1 := by split <;> simp
    omega
theorem okD_fair {d : FD} (h : d.okD) (h3 : d.k ≠ 3) : d.key.length ≤ 64 ∧ d.blob.length ≤ 4096 ∧ (d.k = 1 ∨ d.k = 2) := by
  have h1 := mayB_iff.1 h.1
  rcases h1.2 with h2 | h2 | h2
  · exact ⟨by omega, by omega, Or.inl h2.1⟩
  · exact ⟨by omega, by omega, Or.inr h2.1⟩
  · exact absurd h2.1 h3

/-- The greatest Txn. -/
def maxT (L : List FD) : Nat := L.foldl (fun m d => max m d.t) 0
theorem maxT_snoc (L : List FD) (d : FD) : maxT (L ++ [d]) = max (maxT L) d.t := by unfold maxT; rw [List.foldl_append]; rfl
theorem maxT_le (L : List FD) (h : ∀ d ∈ L, d.t ≤ 4294967295) : maxT L ≤ 4294967295 := by
  unfold maxT
  suffices ∀ (m : Nat), m ≤ 4294967295 → L.foldl (fun m d => max m d.t) m ≤ 4294967295 from this 0 (by omega)
  induction L with
  | nil => exact fun m hm => hm
  | cons a L ih =>
    intro m hm
    rw [List.foldl_cons]
    have := h a (List.mem_cons_self ..)
    exact ih (fun d hd => h d (List.mem_cons_of_mem _ hd)) _ (by omega)

end Go.Proofs.YtnhfmcijadficaaGreatDoor

/- The walks over greatestTxn and over a store's read. -/
namespace Go.Proofs.YtnhfmcijadficaaGreatDoor
set_option maxRecDepth 100000
open Go.RowKit Go.Maps

theorem Founds.row {w : World} {S : Nat → Prop} {A : Option Addr} {n cap : Nat} {l : List Fd} (h : Founds w S A n cap l) : RowSl Fd.cells 6 w S A n cap l := ⟨h.1, h.2.1, h.2.2.1, h.2.2.2.1⟩
theorem Founds.below {w w' : World} {S : Nat → Prop} {A : Option Addr} {n cap : Nat} {l : List Fd} (h : Founds w S A n cap l) (b : Below w.heap.size w w') : Founds w' S A n cap l := h.only (Only.of_below (S := Empty) b) (fun _ _ h => h.elim)

set_option maxHeartbeats 4000000 in
theorem greatest_any (A : Option Addr) (n cap : Nat) (l : List Fd) (w : World) (hF : Founds w Empty A n cap l) (ht : ∀ d ∈ l.map Fd.d, d.t ≤ 4294967295) (hn : n ≤ 1048576) :
    Calls Tryz.prog 116 #[.slice A n cap] w fun e w' => e = .returned (.int .u32 (maxT (l.map Fd.d) : Int)) ∧ Below w.heap.size w w' := by
  have HF := Lib.hid hF
  have hncap : n ≤ cap := hF.2.1
  have hcap2 : cap ≤ 9223372036854775807 := by have := hF.2.2.1; unfold maxLen at this; omega
  have hln := hF.1
  have Hmx : Hid (∀ i, maxT ((l.take i).map Fd.d) ≤ 4294967295) := Lib.hid (fun i => maxT_le _ (fun d hd => by
    obtain ⟨f, hf, rfl⟩ := List.mem_map.1 hd
    exact ht _ (List.mem_map.2 ⟨f, List.mem_of_mem_take hf, rfl⟩)))
  have Ht := Lib.hid ht
  clear hF ht
  go_enter Tryz.func116, Tryz.ntmps116
  go_wp2_with fail
  go_loopw [3, 8] (fun r v wr => ∃ i : Nat, i ≤ n ∧ v = .int .i64 (i : Int) ∧ r = .int .u32 (maxT ((l.take i).map Fd.d) : Int) ∧ Hid (Below w.heap.size w wr)) (fun _ v _ => n - (intOf v).toNat)
  case atStart => exact ⟨0, Nat.zero_le _, rfl, rfl, Lib.hid (Below.refl _ _)⟩
  case round =>
    obtain ⟨i, hi, rfl, rfl, HB⟩ := hrel
    have hmx := Hmx.out i
    by_cases hlt : i < n
    · obtain ⟨b, o, f, hA, hbl, -, hf, hc⟩ := ((HF.out.below HB.out).row).at_ hlt
      have htk := take_snoc l i f hf
      have htf : f.t ≤ 4294967295 := Ht.out f.d (List.mem_map.2 ⟨f, List.mem_of_getElem? hf, rfl⟩)
      have hsn : maxT ((l.take (i + 1)).map Fd.d) = max (maxT ((l.take i).map Fd.d)) f.t := by rw [htk, List.map_append]; exact maxT_snoc _ _
      obtain ⟨pl, k, t, s, A2, n2, cap2, cc, xs⟩ := f
      have c0 : wr.cell? ⟨b, o + i * 6, none⟩ = some (.int .i64 pl) := hc 0 (by omega)
      have c1 : wr.cell? ⟨b, o + i * 6 + 1, none⟩ = some (.int .i64 k) := hc 1 (by omega)
      have c2 : wr.cell? ⟨b, o + i * 6 + 2, none⟩ = some (.int .u32 (t : Int)) := hc 2 (by omega)
      have c3 : wr.cell? ⟨b, o + i * 6 + 3, none⟩ = some (.string s) := hc 3 (by omega)
      have c4 : wr.cell? ⟨b, o + i * 6 + 4, none⟩ = some (.slice A2 n2 cap2) := hc 4 (by omega)
      have c5 : wr.cell? ⟨b, o + i * 6 + 5, none⟩ = some (.int .i64 cc) := hc 5 (by omega)
      have HB2 := Lib.hid (HB.out.alloc HB.out.size (.cells #[.int .i64 pl, .int .i64 k, .int .u32 (t : Int), .string s, .slice A2 n2 cap2, .int .i64 cc] 190))
      have Hsn := Lib.hid hsn
      obtain ⟨mx, hmx2⟩ : ∃ mx, mx = maxT ((l.take i).map Fd.d) := ⟨_, rfl⟩
      rw [← hmx2] at Hsn hmx ⊢
      subst hA
      clear hc hf htk hsn hmx2
      go_wp2_with fail
      go_roundw
      case rel =>
        refine ⟨i + 1, by omega, by simp, ?_, HB2⟩
        rw [Hsn.out]
        exact congrArg (fun v : Int => Value.int .u32 v) (by simp; omega)
      case measure => simp [intOf]; omega
    · have hin : i = n := by omega
      subst hin
      have hte : l.take i = l := List.take_of_length_le (by omega)
      rw [hte]
      go_wp2_with fail
      go_ret
      exact ⟨rfl, HB.out⟩

end Go.Proofs.YtnhfmcijadficaaGreatDoor

/- The walk over carpetbagmake's Next. -/
namespace Go.Proofs.YtnhfmcijadficaaGreatDoor
set_option maxRecDepth 100000
open Go.RowKit Go.Maps

/-- A tape as it lies: its own block is new, its bytes are old. -/
structure TapeAt (w : World) (B g : Nat) (A : Option Addr) (n cap : Nat) (xs : List UInt8) (at_ : Nat) : Prop where
  blk : Blk w g 53 #[.slice A n cap, .int .i64 (at_ : Int)]
  row : ByteSl w (fun q => B ≤ q) A n cap xs
  le : at_ ≤ n
  new : B ≤ g
  n1 : n ≤ 1048576

theorem TapeAt.only {w w' : World} {B g n cap at_ : Nat} {A : Option Addr} {xs : List UInt8} {T : Nat → Prop} (h : TapeAt w B g A n cap xs at_) (k : Only T w w') (hg : ¬ T g) (hb : ∀ i, T i → B ≤ i) : TapeAt w' B g A n cap xs at_ :=
  ⟨k.blk h.blk hg, h.row.only k (fun i _ h1 => hb i h1), h.le, h.new, h.n1⟩
theorem TapeAt.below {w w' : World} {B g n cap at_ : Nat} {A : Option Addr} {xs : List UInt8} (h : TapeAt w B g A n cap xs at_) (k : Below w.heap.size w w') : TapeAt w' B g A n cap xs at_ :=
  h.only (Only.of_below (S := Empty) k) (fun h => h) (fun _ h => h.elim)

/-- How Next ends: a number below k. -/
def Nexted (B g : Nat) (A : Option Addr) (n cap : Nat) (xs : List UInt8) (k : Nat) (w w' : World) (e1 : Ending) : Prop :=
  (∃ v : Nat, v < k ∧ e1 = .returned (.int .i64 (v : Int))) ∧ (∃ at2, TapeAt w' B g A n cap xs at2) ∧ Only (· = g) w w'

set_option maxHeartbeats 2000000 in
theorem next_tape (B g : Nat) (A : Option Addr) (n cap : Nat) (xs : List UInt8) (at_ k : Nat) (w : World) (h : TapeAt w B g A n cap xs at_) (hk : 2 ≤ k) (hk2 : k ≤ 1048576) :
    Calls Tryz.prog 18 #[.pointer (some ⟨g, 0, none⟩), .int .i64 (k : Int)] w fun e1 w' => Nexted B g A n cap xs k w w' e1 := by
  have hn1 := h.n1
  have hle := h.le
  have c0 : w.cell? ⟨g, 0, none⟩ = some (.slice A n cap) := h.blk.cell 0
  have c1 : w.cell? ⟨g, 1, none⟩ = some (.int .i64 (at_ : Int)) := h.blk.cell 1
  have f1 := h.blk.frozen 1
  have hgl := h.blk.lt
  have hcap := h.row.2.1
  have hk3 : decide ((k : Int) < 2) = false := by simp; omega
  by_cases hlt : at_ < n
  · obtain ⟨ad, x, rfl, had, hadB, hx, hc⟩ := h.row.at_ hlt
    have hag : ad.block ≠ g := fun e => hadB (by rw [e]; exact h.new)
    have hO : Only (· = g) w (w.setCell ⟨g, 1, none⟩ (.int .i64 ((at_ : Int) + 1))) := (Only.refl (· = g) w).setCell (p := ⟨g, 1, none⟩) (Or.inl rfl) _
    have hb1 := h.blk.set_ 1 (.int .i64 ((at_ : Int) + 1))
    have HT : Hid (TapeAt (w.setCell ⟨g, 1, none⟩ (.int .i64 ((at_ : Int) + 1))) B g (some ad) n cap xs (at_ + 1)) := Lib.hid ⟨by simpa using hb1, h.row.only hO (fun i _ e => by rw [e]; exact h.new), by omega, h.new, hn1⟩
    have hlt2 : decide ((n : Int) ≤ (at_ : Int)) = false := by simp; omega
    have HO := Lib.hid hO
    have hxb : x.toNat < 256 := x.toNat_lt
    have hd : ((at_ : Int) + 1 - 1) = (at_ : Int) := by omega
    have hc2 : (w.setCell ⟨g, 1, none⟩ (.int .i64 ((at_ : Int) + 1))).cell? (ad.add at_) = some (.int .u8 (x.toNat : Int)) := (hO.cell (p := ad.add at_) (by rw [addr_add_block]; exact had) (by rw [addr_add_block]; exact hag)).trans hc
    have hd0 : (w.setCell ⟨g, 1, none⟩ (.int .i64 ((at_ : Int) + 1))).cell? ⟨g, 0, none⟩ = some (.slice (some ad) n cap) := hb1.cell 0
    have hd1 : (w.setCell ⟨g, 1, none⟩ (.int .i64 ((at_ : Int) + 1))).cell? ⟨g, 1, none⟩ = some (.int .i64 ((at_ : Int) + 1)) := by rw [hb1.cell]; rfl
    clear h hx hO hb1
    go_enter Tryz.func18, Tryz.ntmps18
    go_wp2_with fail
    go_region
    go_wp2_with fail
    obtain ⟨w1, hw1⟩ : ∃ w1, w1 = w.setCell ⟨g, 1, none⟩ (.int .i64 ((at_ : Int) + 1)) := ⟨_, rfl⟩
    rw [← hw1] at HT HO hc2 hd0 hd1 ⊢
    have hmod : (x.toNat : Int) % (k : Int) = ((x.toNat % k : Nat) : Int) := by simp
    have hk0 : ((k : Int) == 0) = false := by simp; omega
    clear hw1 c0 c1 f1
    go_region
    go_wp2_with fail
    go_ret
    exact ⟨⟨x.toNat % k, Nat.mod_lt _ (by omega), by simp⟩, ⟨at_ + 1, HT.out.only ((Only.refl Empty w1).drew.drew) (fun h => h) (fun _ h => h.elim)⟩, HO.out.drew.drew⟩
  · have hlt2 : decide ((n : Int) ≤ (at_ : Int)) = true := by simp; omega
    have HT := Lib.hid h
    clear h
    go_enter Tryz.func18, Tryz.ntmps18
    go_wp2_with fail
    go_region
    go_wp2_with fail
    go_ret
    exact ⟨⟨0, by omega, rfl⟩, ⟨at_, HT.out.only (Only.refl Empty w).drew (fun h => h) (fun _ h => h.elim)⟩, (Only.refl _ _).drew⟩

theorem next_tape_v (B g : Nat) (A : Option Addr) (n cap : Nat) (xs : List UInt8) (at_ k : Nat) (kv : Int) (w : World) (h : TapeAt w B g A n cap xs at_) (hk : 2 ≤ k) (hk2 : k ≤ 1048576) (hv : kv = (k : Int)) :
    Calls Tryz.prog 18 #[.pointer (some ⟨g, 0, none⟩), .int .i64 kv] w fun e1 w' => Nexted B g A n cap xs k w w' e1 := by
  subst hv
  exact next_tape B g A n cap xs at_ k w h hk hk2

end Go.Proofs.YtnhfmcijadficaaGreatDoor
