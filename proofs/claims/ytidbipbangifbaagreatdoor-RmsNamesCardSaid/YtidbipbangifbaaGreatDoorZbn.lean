/- The walks over law 9's made and fixed; the document's IsName. -/
import Derived.Test.YtidbipbangifbaaGreatDoorZbm
import Derived.Lib.SlBytesConst
namespace Go.Proofs.YtidbipbangifbaaGreatDoor
set_option maxRecDepth 100000
open Go.RowKit

/-- A new store is one that commits have made. -/
theorem fresh_good9 {w : World} {s mb p c e S Z L : Nat} (g : GoodX w s mb p c e Z L [] ⟨0, 0, 0, 0⟩ (freshS S Z)) (hz : 12 ≤ Z) (hz2 : Z ≤ 65536) (hS : 1 ≤ S) : GoodR w s mb p c e Z L [] ⟨0, 0, 0, 0⟩ (freshS S Z) 0 := by
  have hs := fresh_secs S Z hz
  refine ⟨g, ⟨hz2, ?_, ?_, by rw [fresh_last S Z hz]; omega, fun _ _ _ _ q hq => (by cases hq), fun j _ => (by show 0 + cost 0 ≤ _; simp [cost]), fun q hq => (by cases hq), Or.inl rfl⟩, by rw [fresh_count S Z L hz]; exact hS⟩
  · intro x hx
    rw [hs] at hx
    rw [List.eq_of_mem_replicate hx]
    exact Or.inl rfl
  · intro x hx
    rw [hs] at hx
    rw [List.eq_of_mem_replicate hx]
    exact Int.le_refl _

/-- What a new store's blocks are. -/
structure Apart (w0 w : World) (s mb p c e : Nat) : Prop where
  three : ∀ q, Three p c e q → q ≠ s ∧ q ≠ mb
  muts : ∀ q, Mut s mb p c e q → w0.heap.size ≤ q ∧ q < w.heap.size
theorem Apart.zero {w0 w : World} {s mb p c e : Nat} (h : Apart w0 w s mb p c e) (h0 : 0 < w0.heap.size) : ¬ Mut s mb p c e 0 := fun hq => by have := (h.muts 0 hq).1; omega

set_option maxHeartbeats 2000000 in
theorem made_any (S Z : Nat) (w : World) (hM : Mark w) (hG : GeoOk S Z 100000) (hS : 2 ≤ S) (hz : 12 ≤ Z) (hz2 : Z ≤ 65536) : Calls Tryz.prog 7 #[.int .i64 (S : Int), .int .i64 (Z : Int)] w fun e w' =>
    (∃ s mb p c er, e = .returned (.tuple #[.pointer (some ⟨p, 0, none⟩), .pointer (some ⟨s, 0, none⟩), .bool true]) ∧ GoodR w' s mb p c er Z 100000 [] ⟨0, 0, 0, 0⟩ (freshS S Z) 0 ∧ Apart w w' s mb p c er) ∧ Below w.heap.size w w' := by
  have HM := Lib.hid hM
  have Hnew := Lib.hid (new_yes S Z 100000 w hG)
  have Hs := Lib.hid hS
  have Hz := Lib.hid hz
  have Hz2 := Lib.hid hz2
  clear hM hG hS hz hz2
  go_enter Tryz.func7, Tryz.ntmps7
  go_wp2_with fail
  refine Hnew.out.mono ?_
  rintro e1 w1 ⟨p, c, er, rfl, hfl, hb1, hp, hc, he⟩
  have Hb1 := Lib.hid hb1
  have hlt : ∀ q, Three p c er q → q < w1.heap.size := (FS.fresh hfl).lt
  have Hmo := Lib.hid (mount_none p c er Z 100000 (freshS S Z) w1 (FS.fresh hfl) (HM.out.below hb1) (fresh_no S Z Hz.out) (by have := Hs.out; rw [fresh_count S Z 100000 Hz.out]; omega))
  have Hlt := Lib.hid hlt
  clear Hnew hfl hb1 hlt
  go_wp2_with fail
  refine Hmo.out.mono ?_
  rintro e2 w2 ⟨⟨s, mb, rfl, hGx, hs, hm⟩, hb2⟩
  have HA : Hid (Apart w w2 s mb p c er) := Lib.hid ⟨fun q hq => by have := Hlt.out q hq; omega, fun q hq => by
    have h1w := Hb1.out.size
    have hSt := hGx.st
    rcases hq with rfl | rfl | hq
    · exact ⟨by omega, hSt.blk.lt⟩
    · exact ⟨by omega, hSt.map.lt⟩
    · refine ⟨?_, hGx.fs.lt q hq⟩
      rcases hq with rfl | rfl | rfl <;> assumption⟩
  have HG := Lib.hid (fresh_good9 hGx Hz.out Hz2.out (by have := Hs.out; omega))
  have Hb2 := Lib.hid (Hb1.out.trans (hb2.mono Hb1.out.size))
  clear hGx hb2 Hmo hp hc he hs hm
  go_wp2_with fail
  refine bodyPost_ret (v := .tuple #[.pointer (some ⟨p, 0, none⟩), .pointer (some ⟨s, 0, none⟩), .bool true]) (by simp [results, Tryz.results7, go_sem]) rfl ?_
  exact ⟨⟨s, mb, p, c, er, rfl, HG.out, HA.out⟩, Hb2.out⟩

theorem strB_get9 (xs : List UInt8) (k : Nat) (x : UInt8) (h : k < (strB xs).size) (hx : xs[k]? = some x) : (strB xs)[k]'h = x := by
  have hl := aa_size xs
  rw [List.getElem?_eq_getElem (by rw [hl] at h; exact h)] at hx
  have h2 := Option.some.inj hx
  rw [← h2]
  rfl
theorem eqB9 {a : Nat} {b : Int} (h : (a : Int) = b) : ((a : Int) == b) = true := by simpa using h
theorem neB9 {a : Nat} {b : Int} (h : (a : Int) ≠ b) : ((a : Int) == b) = false := by simpa using h
theorem sign9_yes (x : UInt8) (h : rsignB x = true) : (97 ≤ x.toNat ∧ x.toNat ≤ 122) ∨ (48 ≤ x.toNat ∧ x.toNat ≤ 57) ∨ (95 ≤ x.toNat ∧ x.toNat ≤ 95) ∨ (45 ≤ x.toNat ∧ x.toNat ≤ 45) := by
  unfold rsignB at h
  have := of_decide_eq_true h
  omega
theorem sign9_no (x : UInt8) (h : rsignB x = false) : (x.toNat < 97 ∨ 122 < x.toNat) ∧ (x.toNat < 48 ∨ 57 < x.toNat) ∧ x.toNat ≠ 95 ∧ x.toNat ≠ 45 := by
  unfold rsignB at h
  have := of_decide_eq_false h
  omega

set_option maxHeartbeats 4000000 in
theorem refName9_any (s : List UInt8) (w : World) (hl : s.length ≤ 9223372036854775807) : Calls Tryz.prog 17 #[.string (strB s)] w fun e w' => e = .returned (.bool (nameB s)) ∧ Below w.heap.size w w' := by
  have hsz := aa_size s
  obtain ⟨n, hn⟩ : ∃ n, s.length = n := ⟨_, rfl⟩
  rw [hn] at hsz hl
  have Hn := Lib.hid hn
  clear hn
  go_enter Tryz.func17, Tryz.ntmps17
  go_wp2
  go_loop [3] (fun i => ∃ k : Nat, k ≤ n ∧ i = .int .i64 (k : Int) ∧ Hid ((s.take k).all rsignB = true)) (fun i => n - (intOf i).toNat)
  case atStart => exact ⟨0, by omega, rfl, Lib.hid rfl⟩
  case round =>
    obtain ⟨k, hk, rfl, HT⟩ := hrel
    by_cases hlt : k < n
    · obtain ⟨x, hx⟩ : ∃ x, s[k]? = some x := ⟨_, List.getElem?_eq_getElem (by rw [Hn.out]; exact hlt)⟩
      have hx255 : x.toNat < 256 := x.toNat_lt
      have h0 : ∀ h, (strB s)[k]'h = x := fun h => strB_get9 _ _ _ h hx
      have HX := Lib.hid hx
      clear hx
      cases hs : rsignB x with
      | true =>
        have HT2 : Hid ((s.take (k + 1)).all rsignB = true) := Lib.hid (by rw [take_one s k x HX.out, List.all_append, HT.out]; simp [hs])
        rcases sign9_yes x hs with h | h | h | h
        all_goals
          obtain ⟨ha, hb⟩ := h
          clear hs
          first
            | (have q : ((x.toNat : Int) == 95) = true := eqB9 (by omega))
            | (have q : ((x.toNat : Int) == 95) = false := neB9 (by omega))
          first
            | (have q2 : ((x.toNat : Int) == 45) = true := eqB9 (by omega))
            | (have q2 : ((x.toNat : Int) == 45) = false := neB9 (by omega))
          go_wp2
          all_goals
            go_round
            all_goals first
              | exact ⟨⟨k + 1, by omega, by go_num, HT2⟩, by simp [intOf]; omega⟩
              | exact ⟨k + 1, by omega, by go_num, HT2⟩
              | (simp [intOf]; omega)
      | false =>
        have HF : Hid (nameB s = false) := Lib.hid (by
          unfold nameB
          have : s.all rsignB = false := List.all_eq_false.2 ⟨x, List.mem_of_getElem? HX.out, by rw [hs]; exact Bool.false_ne_true⟩
          rw [this]
          simp)
        obtain ⟨ha, hb, h95, h45⟩ := sign9_no x hs
        have q : ((x.toNat : Int) == 95) = false := neB9 (by omega)
        have q2 : ((x.toNat : Int) == 45) = false := neB9 (by omega)
        clear hs h95 h45
        rcases ha with ha | ha <;> rcases hb with hb | hb
        all_goals
          first
            | (exfalso; omega)
            | (go_wp2
               all_goals first
                 | (go_ret
                    exact ⟨by rw [HF.out]; rfl, Below.refl _ _⟩)
                 | (exfalso
                    rename_i hz
                    simp at hz
                    omega))
    · obtain rfl : k = n := by omega
      have HN : Hid (nameB s = decide (1 ≤ k ∧ k ≤ 16)) := Lib.hid (by
        have h := HT.out
        rw [List.take_of_length_le (Nat.le_of_eq Hn.out)] at h
        unfold nameB
        rw [h, Hn.out, Bool.and_true])
      by_cases h1 : 1 ≤ k
      · by_cases h2 : k ≤ 16
        · have hd1 : decide ((1 : Int) ≤ (k : Int)) = true := decide_eq_true (by omega)
          have hd2 : decide ((k : Int) ≤ 16) = true := decide_eq_true (by omega)
          go_wp2
          go_ret
          exact ⟨by rw [HN.out, decide_eq_true ⟨h1, h2⟩]; rfl, Below.refl _ _⟩
        · have hd1 : decide ((1 : Int) ≤ (k : Int)) = true := decide_eq_true (by omega)
          have hd2 : decide ((k : Int) ≤ 16) = false := decide_eq_false (by omega)
          go_wp2
          go_ret
          exact ⟨by rw [HN.out, decide_eq_false (fun h => h2 h.2)]; rfl, Below.refl _ _⟩
      · have hd1 : decide ((1 : Int) ≤ (k : Int)) = false := decide_eq_false (by omega)
        go_wp2
        go_ret
        exact ⟨by rw [HN.out, decide_eq_false (fun h => h1 h.1)]; rfl, Below.refl _ _⟩

end Go.Proofs.YtidbipbangifbaaGreatDoor

/- The walk over rms.Add's closure. -/
namespace Go.Proofs.YtidbipbangifbaaGreatDoor
set_option maxRecDepth 100000
open Go.RowKit

/-- What is told of an entry that is added: the record's box, the id's box, the row. -/
structure AddS (g gd gi base nx vs : Nat) (B : Option Addr) (m c : Nat) (l : List EntM) (D : Option Addr) (dn dc id : Nat) (w : World) : Prop where
  box : Blk w g 31 #[.int .u32 (nx : Int), .int .u32 (vs : Int), .slice B m c]
  data : Blk w gd 22 #[.slice D dn dc]
  id_ : Blk w gi 28 #[.int .u32 (id : Int)]
  row : GotR EntM.cells 2 91 base w B m c l
  le : base ≤ w.heap.size
theorem Got.far {base q : Nat} {w w' : World} {t : TypeId} {cs : Array Value} {A : Option Addr} {n cap : Nat} {zs : List UInt8} (h : Got base w A n cap zs) (hB : Blk w q t cs) (hne : 5 ≠ t) (hO : Only (· = q) w w') : Got base w' A n cap zs := by
  have h1 : w'.ownsRow base 5 1 (.slice A n cap) n (zs.map B8) := by
    refine ⟨h.own.1, ?_⟩
    rcases h.own.2 with h0 | ⟨g', c2, cur, e, hb, hBg, r⟩
    · exact Or.inl h0
    · exact Or.inr ⟨g', c2, cur, e, hb, hO.blk hBg (Blk.ne_ hBg hB hne), r⟩
  obtain ⟨A', c', e, hG⟩ := Got.of_own h1
  cases e
  exact hG
/-- Bytes made since base stay. -/
def KeepG (base : Nat) (w w' : World) : Prop := ∀ A n cap zs, Got base w A n cap zs → Got base w' A n cap zs
def AddOut (g gd gi base nx vs : Nat) (B : Option Addr) (m c : Nat) (l : List EntM) (D : Option Addr) (dn dc : Nat) (xs : List UInt8) (w : World) (e : Ending) (w' : World) : Prop :=
  if 512 < dn ∨ 64 ≤ m ∨ nx = 4294967295 then e = .returned (.int .i64 9) ∧ Only Empty w w'
  else e = .returned (.int .i64 0) ∧ (∃ B' c', AddS g gd gi base (nx + 1) vs B' (m + 1) c' (l ++ [⟨nx, D, dn, dc, xs⟩]) D dn dc nx w') ∧ Only (fun q => q = g ∨ q = gi ∨ base ≤ q) w w' ∧ KeepG base w w'

set_option maxHeartbeats 2000000 in
theorem rmAdd1_any (g gd gi base nx vs : Nat) (B : Option Addr) (m c : Nat) (l : List EntM) (D : Option Addr) (dn dc id : Nat) (xs : List UInt8) (w : World) (hA : AddS g gd gi base nx vs B m c l D dn dc id w) (hn : nx ≤ 4294967295) (hdn : dn ≤ dc ∧ dc ≤ maxLen) :
    Calls Tryz.prog 50 #[.pointer (some ⟨g, 0, none⟩), .pointer (some ⟨gd, 0, none⟩), .pointer (some ⟨gi, 0, none⟩)] w fun e w' => AddOut g gd gi base nx vs B m c l D dn dc xs w e w' := by
  have b0 := hA.box.cell 0
  have b2 := hA.box.cell 2
  have d0 := hA.data.cell 0
  have i0 := hA.id_.cell 0
  have fb0 := hA.box.frozen 0
  have fb2 := hA.box.frozen 2
  have fi0 := hA.id_.frozen 0
  have lb := hA.box.lt
  have ld := hA.data.lt
  have li := hA.id_.lt
  have hmc := hA.row.row.2.1
  have hcm := hA.row.row.2.2.1
  have hdn1 := hdn.1
  have hdn2 := hdn.2
  unfold maxLen at hcm hdn2
  simp at b0 b2 d0 i0
  have HA := Lib.hid hA
  clear hA
  by_cases c1 : 512 < dn
  · have HE : Hid (∀ e w', e = .returned (.int .i64 9) ∧ Only Empty w w' → AddOut g gd gi base nx vs B m c l D dn dc xs w e w') := Lib.hid (fun e w' h => by unfold AddOut; rw [if_pos (Or.inl c1)]; exact h)
    have q1 : decide ((512 : Int) < (dn : Int)) = true := decide_eq_true (by omega)
    clear c1
    go_enter Tryz.func50, Tryz.ntmps50
    go_wp2
    go_ret
    exact HE.out _ _ ⟨rfl, Only.refl _ _⟩
  have q1 : decide ((512 : Int) < (dn : Int)) = false := decide_eq_false (by omega)
  by_cases c2 : 64 ≤ m
  · have HE : Hid (∀ e w', e = .returned (.int .i64 9) ∧ Only Empty w w' → AddOut g gd gi base nx vs B m c l D dn dc xs w e w') := Lib.hid (fun e w' h => by unfold AddOut; rw [if_pos (Or.inr (Or.inl c2))]; exact h)
    have q2 : decide ((64 : Int) ≤ (m : Int)) = true := decide_eq_true (by omega)
    clear c1 c2
    go_enter Tryz.func50, Tryz.ntmps50
    go_wp2
    go_ret
    exact HE.out _ _ ⟨rfl, Only.refl _ _⟩
  have q2 : decide ((64 : Int) ≤ (m : Int)) = false := decide_eq_false (by omega)
  by_cases c3 : nx = 4294967295
  · have HE : Hid (∀ e w', e = .returned (.int .i64 9) ∧ Only Empty w w' → AddOut g gd gi base nx vs B m c l D dn dc xs w e w') := Lib.hid (fun e w' h => by unfold AddOut; rw [if_pos (Or.inr (Or.inr c3))]; exact h)
    have q3 : ((nx : Int) == 4294967295) = true := by simp; omega
    clear c1 c2 c3
    go_enter Tryz.func50, Tryz.ntmps50
    go_wp2
    go_ret
    exact HE.out _ _ ⟨rfl, Only.refl _ _⟩
  have q3 : ((nx : Int) == 4294967295) = false := by simp; omega
  have HE : Hid (∀ e w', (e = .returned (.int .i64 0) ∧ (∃ B' c', AddS g gd gi base (nx + 1) vs B' (m + 1) c' (l ++ [⟨nx, D, dn, dc, xs⟩]) D dn dc nx w') ∧ Only (fun q => q = g ∨ q = gi ∨ base ≤ q) w w' ∧ KeepG base w w') → AddOut g gd gi base nx vs B m c l D dn dc xs w e w') := Lib.hid (fun e w' h => by unfold AddOut; rw [if_neg (by omega)]; exact h)
  have hm64 : m < 64 := by omega
  have hnx1 : nx + 1 ≤ 4294967295 := by omega
  have hnw : IntKind.u32.wrap ((nx : Int) + 1) = (nx : Int) + 1 := by rw [IntKind.wrap_u32]; omega
  clear c1 c2 c3
  go_enter Tryz.func50, Tryz.ntmps50
  go_wp2_with fail
  have hgi : g ≠ gi := Blk.ne_ HA.out.box HA.out.id_ (by decide)
  have hdi : gd ≠ gi := Blk.ne_ HA.out.data HA.out.id_ (by decide)
  have hgd : g ≠ gd := Blk.ne_ HA.out.box HA.out.data (by decide)
  obtain ⟨w1, hw1⟩ : ∃ w1, w1 = w.setCell ⟨gi, 0, none⟩ (.int .u32 (nx : Int)) := ⟨_, rfl⟩
  have hset : Only (· = gi) w w1 := by rw [hw1]; exact (Only.refl (· = gi) w).setCell (p := ⟨gi, 0, none⟩) (Or.inl rfl) _
  have hid1 : Blk w1 gi 28 #[.int .u32 (nx : Int)] := by rw [hw1]; have k := HA.out.id_.set_ 0 (.int .u32 (nx : Int)); simpa using k
  rw [← hw1]
  have hdr : Only Empty w1 w1.drew := (Only.refl Empty w1).drew
  have hA1 : AddS g gd gi base nx vs B m c l D dn dc nx w1.drew := ⟨hdr.blk (hset.blk HA.out.box hgi) (fun h => h), hdr.blk (hset.blk HA.out.data hdi) (fun h => h), hdr.blk hid1 (fun h => h), (HA.out.row.far EntM.cells_len HA.out.id_ (by decide) hset).only EntM.cells_len hdr (fun _ _ _ h => h), by have := HA.out.le; have := hset.size; have := hdr.size; omega⟩
  have HA1 := Lib.hid hA1
  have HO1 : Hid (Only (fun q => q = g ∨ q = gi ∨ base ≤ q) w w1.drew) := Lib.hid ((hset.mono (fun q _ e => Or.inr (Or.inl e))).trans (hdr.mono (fun _ _ h => h.elim)))
  have hal : Below w1.drew.heap.size w1.drew (w1.drew.alloc (.cells #[.int .u32 (nx : Int), .slice D dn dc] 91)) := (Below.refl w1.drew.heap.size w1.drew).alloc (Nat.le_refl _) _
  have hrow : RowSl EntM.cells 2 (w1.drew.alloc (.cells #[.int .u32 (nx : Int), .slice D dn dc] 91)) Empty (some ⟨w1.drew.heap.size, 0, none⟩) 1 1 [(⟨nx, D, dn, dc, xs⟩ : EntM)] := ent_lit (⟨nx, D, dn, dc, xs⟩ : EntM) w1.drew
  obtain ⟨B', c', w2, hrun, hG, hgr, hro⟩ := run_append_rows EntM.cells_len EntM.cells_one (by decide) 29 91 _ 32 Tryz.underlying29 Tryz.infoEntry (by simp [Value.cells]) (by decide) 29 base B m c l (hA1.row.below EntM.cells_len hal) _ 1 1 [(⟨nx, D, dn, dc, xs⟩ : EntM)] hrow (by omega) (by have := hA1.le; simp at this ⊢; omega)
  have hrow1 := hA1.row.below EntM.cells_len hal
  have hb2 := (hA1.box.alloc (.cells #[.int .u32 (nx : Int), .slice D dn dc] 91)).row hrow1.own (by decide) hgr
  have hd2 := (hA1.data.alloc (.cells #[.int .u32 (nx : Int), .slice D dn dc] 91)).row hrow1.own (by decide) hgr
  have hi2 := (hA1.id_.alloc (.cells #[.int .u32 (nx : Int), .slice D dn dc] 91)).row hrow1.own (by decide) hgr
  have HB2 := Lib.hid hb2
  have HD2 := Lib.hid hd2
  have HI2 := Lib.hid hi2
  have HG2 := Lib.hid hG
  have HS2 : Hid (base ≤ w2.heap.size) := Lib.hid (by have := hA1.le; have := hal.size; have := hgr.size; omega)
  have HO2 : Hid (Only (fun q => q = g ∨ q = gi ∨ base ≤ q) w w2) := Lib.hid ((HO1.out.trans (Only.of_below hal)).trans (Only.of_grown hgr (fun k e _ => Or.inr (Or.inr (hro k e)))))
  have hrun2 : (Builtin.append_ #[29, 29] 29 #[.slice B m c, .slice (some ⟨w1.heap.size, 0, none⟩) 1 1]).run Tryz.prog (w1.alloc (.cells #[.int .u32 (nx : Int), .slice D dn dc] 91)).drew = .ok (.slice B' (m + 1) c') w2 := hrun
  have e2a : (w1.alloc (.cells #[.int .u32 (nx : Int), .slice D dn dc] 91)).drew.cell? ⟨g, 2, none⟩ = some (.slice B m c) := (hA1.box.alloc _).cell 2
  have hs1 : w1.drew.cell? ⟨gd, 0, none⟩ = some (.slice D dn dc) ∧ w1.drew.cell? ⟨gi, 0, none⟩ = some (.int .u32 (nx : Int)) := ⟨hA1.data.cell 0, hA1.id_.cell 0⟩
  have hsA : (w1.alloc (.cells #[.int .u32 (nx : Int), .slice D dn dc] 91)).drew.cell? ⟨gd, 0, none⟩ = some (.slice D dn dc) ∧ (w1.alloc (.cells #[.int .u32 (nx : Int), .slice D dn dc] 91)).drew.cell? ⟨gi, 0, none⟩ = some (.int .u32 (nx : Int)) := ⟨(hA1.data.alloc _).cell 0, (hA1.id_.alloc _).cell 0⟩
  have hs2 : w2.cell? ⟨gd, 0, none⟩ = some (.slice D dn dc) ∧ w2.cell? ⟨gi, 0, none⟩ = some (.int .u32 (nx : Int)) := ⟨hd2.cell 0, hi2.cell 0⟩
  have hset2 : Only (· = g) w2 (w2.setCell ⟨g, 2, none⟩ (.slice B' (m + 1) c')) := (Only.refl (· = g) w2).setCell (p := ⟨g, 2, none⟩) (Or.inl rfl) _
  have hs3 : (w2.setCell ⟨g, 2, none⟩ (.slice B' (m + 1) c')).cell? ⟨gd, 0, none⟩ = some (.slice D dn dc) ∧ (w2.setCell ⟨g, 2, none⟩ (.slice B' (m + 1) c')).cell? ⟨gi, 0, none⟩ = some (.int .u32 (nx : Int)) := ⟨(hset2.blk hd2 (fun e => hgd e.symm)).cell 0, (hset2.blk hi2 (fun e => hgi e.symm)).cell 0⟩
  have hO5 : Only (· = g) w2 ((w2.setCell ⟨g, 2, none⟩ (.slice B' (m + 1) c')).setCell ⟨g, 0, none⟩ (.int .u32 ((nx : Int) + 1))) := hset2.setCell (p := ⟨g, 0, none⟩) (Or.inl rfl) _
  have Hend : Hid ((∃ B1 c1, AddS g gd gi base (nx + 1) vs B1 (m + 1) c1 (l ++ [(⟨nx, D, dn, dc, xs⟩ : EntM)]) D dn dc nx ((w2.setCell ⟨g, 2, none⟩ (.slice B' (m + 1) c')).setCell ⟨g, 0, none⟩ (.int .u32 ((nx : Int) + 1)))) ∧ Only (fun q => q = g ∨ q = gi ∨ base ≤ q) w ((w2.setCell ⟨g, 2, none⟩ (.slice B' (m + 1) c')).setCell ⟨g, 0, none⟩ (.int .u32 ((nx : Int) + 1))) ∧ KeepG base w ((w2.setCell ⟨g, 2, none⟩ (.slice B' (m + 1) c')).setCell ⟨g, 0, none⟩ (.int .u32 ((nx : Int) + 1)))) := Lib.hid ⟨⟨B', c', by have k := (hb2.set_ 2 (.slice B' (m + 1) c')).set_ 0 (.int .u32 ((nx : Int) + 1)); simpa using k, hO5.blk hd2 (fun e => hgd e.symm), hO5.blk hi2 (fun e => hgi e.symm), HG2.out.far EntM.cells_len hb2 (by decide) hO5, by have := HS2.out; have := hO5.size; omega⟩, HO2.out.trans (hO5.mono (fun q _ e => Or.inl e)), fun A n cap zs h => (((((h.far HA.out.id_ (by decide) hset).only_ hdr (fun _ _ _ h => h)).only_ (Only.of_below (S := Empty) hal) (fun _ _ _ h => h)).row hrow1.own (by decide) hgr)).far hb2 (by decide) hO5⟩
  have e2 : w1.drew.cell? ⟨g, 2, none⟩ = some (.slice B m c) := hA1.box.cell 2
  have e2l := hA1.box.lt
  have e2c := hb2.cell 2
  have e0c := hb2.cell 0
  have e2f := hb2.frozen 2
  have e0f := hb2.frozen 0
  have e2lt := hb2.lt
  simp at e2c e0c
  clear hrun hw1 hdr hset hid1 hA1 hrow hal hG hgr hro hrow1 hb2 hd2 hi2 b0 b2 d0 i0 fb0 fb2 fi0
  refine wp_region_held_drew (S := fun W => W.cell? ⟨gd, 0, none⟩ = some (.slice D dn dc) ∧ W.cell? ⟨gi, 0, none⟩ = some (.int .u32 (nx : Int))) (by kernel_rfl) hs1 (fun hHeld0 => ?_)
  refine take_yes 0 27 ?_ rfl rfl (by kernel_rfl) (by kernel_rfl) (by kernel_rfl) (fun _ _ _ h => h) (by kernel_rfl) ?_ (by assumption) ?_; rotate_left; (focus (intro w hSw; (try dsimp only at hSw); go_simp; all_goals first | with_reducible rfl)); simp only [Act.put, List.setIfInBounds_toArray, List.set_cons_zero, List.set_cons_succ]
  refine take_yes 1 28 ?_ rfl rfl (by kernel_rfl) (by kernel_rfl) (by kernel_rfl) (fun _ _ _ h => h) (by kernel_rfl) ?_ (by assumption) ?_; rotate_left; (focus (intro w hSw; (try dsimp only at hSw); go_simp; all_goals first | with_reducible rfl)); simp only [Act.put, List.setIfInBounds_toArray, List.set_cons_zero, List.set_cons_succ]
  refine take_yes 2 29 ?_ rfl rfl (by kernel_rfl) (by kernel_rfl) (by kernel_rfl) (fun _ _ _ h => h) (by kernel_rfl) ?_ (by assumption) ?_; rotate_left; (focus (intro w hSw; (try dsimp only at hSw); go_simp; all_goals first | with_reducible rfl)); simp only [Act.put, List.setIfInBounds_toArray, List.set_cons_zero, List.set_cons_succ]
  refine take_yes 3 30 ?_ rfl rfl (by kernel_rfl) (by kernel_rfl) (by kernel_rfl) (fun _ _ _ h => h) (by kernel_rfl) ?_ (by assumption) ?_; rotate_left; (focus (intro w hSw; (try dsimp only at hSw); go_simp; all_goals first | with_reducible rfl)); simp only [Act.put, List.setIfInBounds_toArray, List.set_cons_zero, List.set_cons_succ]
  refine take_yes 5 32 ?_ rfl rfl (by kernel_rfl) (by kernel_rfl) (by kernel_rfl) (fun _ _ _ h => h) (by kernel_rfl) ?_ (by assumption) ?_; rotate_left; (focus (intro w hSw; (try dsimp only at hSw); go_simp; all_goals first | with_reducible rfl)); simp only [Act.put, List.setIfInBounds_toArray, List.set_cons_zero, List.set_cons_succ]
  refine take_yes 6 33 ?_ rfl rfl (by kernel_rfl) (by kernel_rfl) (by kernel_rfl) (fun _ _ _ h => h) (by kernel_rfl) ?_ (by assumption) ?_; rotate_left; (focus (intro w hSw; (try dsimp only at hSw); go_simp; all_goals first | with_reducible rfl)); simp only [Act.put, List.setIfInBounds_toArray, List.set_cons_zero, List.set_cons_succ]
  refine take_yes 7 34 ?_ rfl rfl (by kernel_rfl) (by kernel_rfl) (by kernel_rfl) (fun _ _ _ h => h) (by kernel_rfl) ?_ (by assumption) ?_; rotate_left; (focus (intro w hSw; (try dsimp only at hSw); go_simp; all_goals first | with_reducible rfl)); simp only [Act.put, List.setIfInBounds_toArray, List.set_cons_zero, List.set_cons_succ]
  refine wpAnyH_ready (rs := [4, 8]) (by kernel_rfl) (by simp) ?_
  refine AllReadyH.cons rfl (fun K hK => ?_) (AllReadyH.cons rfl (fun K hK => ?_) AllReadyH.nil)
  · go_simp
    refine hK.out _ _ (hs1) (fun _ => ?_)
    clear hK K
    try simp only [Act.put, List.setIfInBounds_toArray, List.set_cons_zero, List.set_cons_succ]
    refine wpAnyH_ready (rs := [8]) (by kernel_rfl) (by simp) ?_
    refine AllReadyH.cons rfl (fun K hK => ?_) AllReadyH.nil
    go_simp
    refine hK.out _ _ (hsA) (fun _ => ?_)
    clear hK K
    try simp only [Act.put, List.setIfInBounds_toArray, List.set_cons_zero, List.set_cons_succ]
    refine wpAnyH_ready (rs := [9]) (by kernel_rfl) (by simp) ?_
    refine AllReadyH.cons rfl (fun K hK => ?_) AllReadyH.nil
    refine step_append_eq (ts := 29) rfl (.tmp 31) (.tmp 35) rfl rfl rfl rfl hrun2 ?_
    refine hK.out _ _ (hs2) (fun _ => ?_)
    clear hK K
    try simp only [Act.put, List.setIfInBounds_toArray, List.set_cons_zero, List.set_cons_succ]
    refine take_yes 10 37 ?_ rfl rfl (by kernel_rfl) (by kernel_rfl) (by kernel_rfl) (fun _ _ _ h => h) (by kernel_rfl) ?_ (by assumption) ?_; rotate_left; (focus (intro w hSw; (try dsimp only at hSw); go_simp; all_goals first | with_reducible rfl)); simp only [Act.put, List.setIfInBounds_toArray, List.set_cons_zero, List.set_cons_succ]
    refine take_yes 11 38 ?_ rfl rfl (by kernel_rfl) (by kernel_rfl) (by kernel_rfl) (fun _ _ _ h => h) (by kernel_rfl) ?_ (by assumption) ?_; rotate_left; (focus (intro w hSw; (try dsimp only at hSw); go_simp; all_goals first | with_reducible rfl)); simp only [Act.put, List.setIfInBounds_toArray, List.set_cons_zero, List.set_cons_succ]
    refine wpAnyH_ready (rs := [12]) (by kernel_rfl) (by simp) ?_
    refine AllReadyH.cons rfl (fun K hK => ?_) AllReadyH.nil
    go_simp
    refine hK.out _ _ (hs3) (fun _ => ?_)
    clear hK K
    try simp only [Act.put, List.setIfInBounds_toArray, List.set_cons_zero, List.set_cons_succ]
    refine wpAnyH_done (by kernel_rfl) ?_ _
    go_wp2
    go_ret
    exact HE.out _ _ ⟨rfl, Hend.out⟩
  · go_simp
    refine hK.out _ _ (hsA) (fun _ => ?_)
    clear hK K
    try simp only [Act.put, List.setIfInBounds_toArray, List.set_cons_zero, List.set_cons_succ]
    refine wpAnyH_ready (rs := [4]) (by kernel_rfl) (by simp) ?_
    refine AllReadyH.cons rfl (fun K hK => ?_) AllReadyH.nil
    go_simp
    refine hK.out _ _ (hsA) (fun _ => ?_)
    clear hK K
    try simp only [Act.put, List.setIfInBounds_toArray, List.set_cons_zero, List.set_cons_succ]
    refine wpAnyH_ready (rs := [9]) (by kernel_rfl) (by simp) ?_
    refine AllReadyH.cons rfl (fun K hK => ?_) AllReadyH.nil
    refine step_append_eq (ts := 29) rfl (.tmp 31) (.tmp 35) rfl rfl rfl rfl hrun2 ?_
    refine hK.out _ _ (hs2) (fun _ => ?_)
    clear hK K
    try simp only [Act.put, List.setIfInBounds_toArray, List.set_cons_zero, List.set_cons_succ]
    refine take_yes 10 37 ?_ rfl rfl (by kernel_rfl) (by kernel_rfl) (by kernel_rfl) (fun _ _ _ h => h) (by kernel_rfl) ?_ (by assumption) ?_; rotate_left; (focus (intro w hSw; (try dsimp only at hSw); go_simp; all_goals first | with_reducible rfl)); simp only [Act.put, List.setIfInBounds_toArray, List.set_cons_zero, List.set_cons_succ]
    refine take_yes 11 38 ?_ rfl rfl (by kernel_rfl) (by kernel_rfl) (by kernel_rfl) (fun _ _ _ h => h) (by kernel_rfl) ?_ (by assumption) ?_; rotate_left; (focus (intro w hSw; (try dsimp only at hSw); go_simp; all_goals first | with_reducible rfl)); simp only [Act.put, List.setIfInBounds_toArray, List.set_cons_zero, List.set_cons_succ]
    refine wpAnyH_ready (rs := [12]) (by kernel_rfl) (by simp) ?_
    refine AllReadyH.cons rfl (fun K hK => ?_) AllReadyH.nil
    go_simp
    refine hK.out _ _ (hs3) (fun _ => ?_)
    clear hK K
    try simp only [Act.put, List.setIfInBounds_toArray, List.set_cons_zero, List.set_cons_succ]
    refine wpAnyH_done (by kernel_rfl) ?_ _
    go_wp2
    go_ret
    exact HE.out _ _ ⟨rfl, Hend.out⟩

end Go.Proofs.YtidbipbangifbaaGreatDoor

/- The walk over rms.change with Add's closure. -/
namespace Go.Proofs.YtidbipbangifbaaGreatDoor
set_option maxRecDepth 100000
open Go.RowKit

def bump (v : Nat) : Nat := if v < 4294967295 then v + 1 else v
/-- The record store behind an entry that was added. -/
def addP (r : RcP) (xs : List UInt8) : RcP := ⟨r.next + 1, bump r.version, r.list ++ [(r.next, xs)]⟩
theorem mayL_add : ∀ (l : List Ent) (next last : Nat) (xs : List UInt8), mayL next last l = true → last < next → xs.length ≤ 512 → mayL (next + 1) last (l ++ [(next, xs)]) = true
  | [], next, last, xs, _, h1, h2 => by
    simp only [List.nil_append, mayL, Bool.and_true]
    exact decide_eq_true ⟨h1, Nat.lt_succ_self _, h2⟩
  | e :: t, next, last, xs, h, h1, h2 => by
    unfold mayL at h
    rw [Bool.and_eq_true] at h
    have h3 := of_decide_eq_true h.1
    rw [List.cons_append]
    unfold mayL
    rw [Bool.and_eq_true]
    exact ⟨decide_eq_true ⟨h3.1, by omega, h3.2.2⟩, mayL_add t next e.1 xs h.2 h3.2.1 h2⟩
theorem addP_may {r : RcP} {xs : List UInt8} (h : mayP r = true) (h1 : r.list.length < 64) (h2 : xs.length ≤ 512) : mayP (addP r xs) = true := by
  unfold mayP at h ⊢
  rw [Bool.and_eq_true] at h ⊢
  have h3 := of_decide_eq_true h.1
  refine ⟨decide_eq_true ⟨by show r.next + 1 ≠ 0; omega, by show (r.list ++ [(r.next, xs)]).length ≤ 64; simp; omega⟩, ?_⟩
  exact mayL_add r.list r.next 0 xs h.2 (by omega) h2

/-- What change does with Add's closure. -/
def ChgAdd (s mb p c e Z L : Nat) (M : Al Sv) (ss : List (Nat × List UInt8)) (B : Int) (suite name xs : List UInt8) (gi id : Nat) (q : Option RcP × Int) (w : World) (e1 : Ending) (w' : World) : Prop :=
  match q with
  | (none, er) => e1 = .returned (.int .i64 er) ∧ Below w.heap.size w w'
  | (some r, _) =>
    if 512 < xs.length ∨ 64 ≤ r.list.length ∨ r.next = 4294967295 then e1 = .returned (.int .i64 9) ∧ Below w.heap.size w w'
    else e1 = .returned (.int .i64 0) ∧ Blk w' gi 28 #[.int .u32 (r.next : Int)] ∧ ∃ M' h' ss', GoodR w' s mb p c e Z L M' h' ss' (B + 8 * (ss.length : Int)) ∧ ss'.length = ss.length ∧ blobsOf (amap Sv.a M') = aput (blobsOf (amap Sv.a M)) (keyL suite name) (rcB (addP r xs)) ∧ M'.length ≤ M.length + 16 ∧ Only (fun q => q = gi ∨ Mut s mb p c e q) w w'

set_option maxHeartbeats 2000000 in
theorem rmChangeAdd_any (s mb p c e Z L : Nat) (M : Al Sv) (h : HeadV) (ss : List (Nat × List UInt8)) (B : Int) (suite name : List UInt8) (gd gi id : Nat) (D : Option Addr) (dn dc : Nat) (xs : List UInt8) (w : World) (G : GoodR w s mb p c e Z L M h ss B)
    (hd : Blk w gd 22 #[.slice D dn dc]) (hi : Blk w gi 28 #[.int .u32 (id : Int)]) (hD : ByteSl w (· = gi) D dn dc xs ∧ (D = none → dn = 0 ∧ dc = 0)) (hgi : ¬ Mut s mb p c e gi) (h0 : gi ≠ 0)
    (hR : ∀ r er, storedQ suite name M = (some r, er) → ¬ (512 < xs.length ∨ 64 ≤ r.list.length ∨ r.next = 4294967295) → RoomC p c e s mb Z L M ss B (keyL suite name) (rcB (addP r xs))) (h1 : suite.length ≤ 1048576) (h2 : name.length ≤ 1048576) :
    Calls Tryz.prog 49 #[.pointer (some ⟨s, 0, none⟩), .string (strB suite), .string (strB name), .func (.func 50) #[] #[.pointer (some ⟨gd, 0, none⟩), .pointer (some ⟨gi, 0, none⟩)]] w fun e1 w' => ChgAdd s mb p c e Z L M ss B suite name xs gi id (storedQ suite name M) w e1 w' := by
  have CS := Lib.hid (rmStored_any s mb p c e M h false suite name w G.g.st G.g.sizes.1 G.g.sizes.2 h1 h2)
  have HMay : Hid (∀ r er, storedQ suite name M = (some r, er) → mayP r = true ∧ r.next ≤ 4294967295 ∧ r.version ≤ 4294967295) := Lib.hid (fun r er h => storedQ_may h)
  have HEr : Hid (∀ er, storedQ suite name M = (none, er) → er ≠ 0) := Lib.hid (fun er h => storedQ_er h)
  obtain ⟨o, er, hq⟩ : ∃ o er, storedQ suite name M = (o, er) := ⟨_, _, rfl⟩
  rw [hq] at CS hR HMay HEr ⊢
  simp only at CS
  have HG := Lib.hid G
  have HR := Lib.hid hR
  have Hd := Lib.hid hd
  have Hi := Lib.hid hi
  have HD := Lib.hid hD
  have hxl : xs.length = dn := hD.1.1
  have hdc : dn ≤ dc ∧ dc ≤ maxLen := ⟨hD.1.2.1, hD.1.2.2.1⟩
  clear G hR hd hi hD hq
  cases o with
  | none =>
    have hz := HEr.out er rfl
    have hq2 : (er != 0) = true := by simpa using hz
    clear hz HMay HEr HR
    go_enter Tryz.func49, Tryz.ntmps49
    go_wp2_with fail
    refine CS.out.mono ?_
    rintro e1 w1 ⟨hR, hb1⟩
    obtain rfl : e1 = _ := hR
    have Hb1 := Lib.hid hb1
    clear hb1
    simp only [Rec_]
    go_wp2
    go_ret
    exact ⟨rfl, Hb1.out.alloc Hb1.out.size _⟩
  | some r =>
    obtain ⟨hm, hnx, hvs⟩ := HMay.out r er rfl
    have Hm := Lib.hid hm
    clear hm HMay HEr
    go_enter Tryz.func49, Tryz.ntmps49
    go_wp2_with fail
    refine CS.out.mono ?_
    rintro e1 w1 ⟨⟨A1, n1, c1_, l, rfl, hGe, hl⟩, hb1⟩
    have Hl := Lib.hid hl
    have hal : Below w1.heap.size w1 (w1.alloc (.cells #[.int .u32 (r.next : Int), .int .u32 (r.version : Int), .slice A1 n1 c1_] 31)) := (Below.refl w1.heap.size w1).alloc (Nat.le_refl _) _
    have HGe := Lib.hid (hGe.below hal)
    have Hb2 := Lib.hid (hb1.trans (hal.mono hb1.size))
    have hs1 := hb1.size
    have HA : Hid (AddS w1.heap.size gd gi w.heap.size r.next r.version A1 n1 c1_ l D dn dc id (w1.alloc (.cells #[.int .u32 (r.next : Int), .int .u32 (r.version : Int), .slice A1 n1 c1_] 31))) := Lib.hid ⟨Blk.new _ _ _, (Hd.out.of (hb1.block gd Hd.out.lt)).alloc _, (Hi.out.of (hb1.block gi Hi.out.lt)).alloc _, HGe.out.row, Hb2.out.size⟩
    have CA := Lib.hid (rmAdd1_any w1.heap.size gd gi w.heap.size r.next r.version A1 n1 c1_ l D dn dc id xs _ HA.out hnx hdc)
    clear hl hal hGe hb1
    simp only [Rec_]
    go_wp2_with fail
    refine CA.out.mono ?_
    intro e2 w2 hout
    have hn1 : n1 = r.list.length := by rw [← Hl.out, List.length_map]; exact HGe.out.row.row.1.symm
    by_cases hbad : 512 < dn ∨ 64 ≤ n1 ∨ r.next = 4294967295
    · unfold AddOut at hout
      rw [if_pos hbad] at hout
      obtain ⟨rfl, hO⟩ := hout
      have HB3 : Hid (Below w.heap.size w w2) := Lib.hid (Hb2.out.trans (hO.below Hb2.out.size (fun _ _ h => h)))
      have HE : Hid (∀ e1 w', e1 = .returned (.int .i64 9) ∧ Below w.heap.size w w' → ChgAdd s mb p c e Z L M ss B suite name xs gi id (some r, er) w e1 w') := Lib.hid (fun e1 w' h => by unfold ChgAdd; simp only; rw [if_pos (by rw [hxl, ← hn1]; exact hbad)]; exact h)
      clear hO hbad
      go_wp2
      go_ret
      exact HE.out _ _ ⟨rfl, HB3.out⟩
    · unfold AddOut at hout
      rw [if_neg hbad] at hout
      obtain ⟨rfl, ⟨B', c', hA'⟩, hO, hK⟩ := hout
      have hbad2 : ¬ (512 < xs.length ∨ 64 ≤ r.list.length ∨ r.next = 4294967295) := by rw [hxl, ← hn1]; exact hbad
      have HRm := Lib.hid (HR.out r er rfl hbad2)
      have HE : Hid (∀ e1 w', (e1 = .returned (.int .i64 0) ∧ Blk w' gi 28 #[.int .u32 (r.next : Int)] ∧ ∃ M' h' ss', GoodR w' s mb p c e Z L M' h' ss' (B + 8 * (ss.length : Int)) ∧ ss'.length = ss.length ∧ blobsOf (amap Sv.a M') = aput (blobsOf (amap Sv.a M)) (keyL suite name) (rcB (addP r xs)) ∧ M'.length ≤ M.length + 16 ∧ Only (fun q => q = gi ∨ Mut s mb p c e q) w w') → ChgAdd s mb p c e Z L M ss B suite name xs gi id (some r, er) w e1 w') := Lib.hid (fun e1 w' h => by unfold ChgAdd; simp only; rw [if_neg hbad2]; exact h)
      have hmy : mayP (addP r xs) = true := addP_may Hm.out (by omega) (by omega)
      have hwg : w.heap.size ≤ w1.heap.size := hs1
      have HWg := Lib.hid hwg
      have hOw : Only (· = gi) w w2 := (Only.of_below Hb2.out).trans' hO (fun i hi hs => by rcases hs with h | h | h <;> omega)
      have HK : Hid (∀ (W : World) (v : Nat), v ≤ 4294967295 → bump r.version = v → Only (· = w1.heap.size) w2 W → Calls Tryz.prog 55 #[.pointer (some ⟨s, 0, none⟩), .string (strB suite), .string (strB name), .agg #[.int .u32 ((r.next + 1 : Nat) : Int), .int .u32 (v : Int), .slice B' (n1 + 1) c']] W fun e1 w' => ChgAdd s mb p c e Z L M ss B suite name xs gi id (some r, er) w e1 w' ∧ e1 = .returned (.int .i64 0)) := Lib.hid (fun W v hv hbv hOW => by
        have hOW2 : Only (· = gi) w W := hOw.trans' hOW (fun i hi hs => by have hs : i = w1.heap.size := hs; omega)
        have hGW := HG.out.turn Hi.out (fun x => by simp [B8]) hOW2 hgi h0
        have hrow := (hA'.row.far EntM.cells_len hA'.box (by decide) hOW).row
        have hEn : EntsAt W Empty B' (n1 + 1) c' (l ++ [(⟨r.next, D, dn, dc, xs⟩ : EntM)]) := by
          refine ⟨hrow, fun x hx => ?_⟩
          rcases List.mem_append.1 hx with hx | hx
          · have h5 := HGe.out.data x hx
            have h6 := (hK _ _ _ _ h5.1).far hA'.box (by decide) hOW
            exact ⟨h6.bytes, h6.isNil, h5.2⟩
          · simp at hx
            subst hx
            exact ⟨(HD.out.1.only hOW2 (fun _ _ h => h)).mono (fun _ _ h => h.elim), HD.out.2, hnx⟩
        have hmp : (l ++ [(⟨r.next, D, dn, dc, xs⟩ : EntM)]).map EntM.p = r.list ++ [(r.next, xs)] := by rw [List.map_append, Hl.out]; rfl
        have hrc : (⟨r.next + 1, v, (l ++ [(⟨r.next, D, dn, dc, xs⟩ : EntM)]).map EntM.p⟩ : RcP) = addP r xs := by rw [hmp, ← hbv]; rfl
        have hk := rmKeep_room s mb p c e Z L M h ss B suite name (r.next + 1) v B' (n1 + 1) c' _ W hGW (by rw [hrc]; exact HRm.out) (by omega) hv hEn (by rw [hrc]; exact hmy) h1 h2
        rw [hrc] at hk
        refine Calls.mono hk ?_
        rintro e1 w' ⟨rfl, M', h', ss', hG2, hss, hX, hM2, hO2⟩
        refine ⟨HE.out _ _ ⟨rfl, hO2.blk ((hOW.blk hA'.id_ (fun e => ?_))) hgi, M', h', ss', hG2, hss, hX, hM2, (hOW2.mono (fun q _ e => Or.inl e)).trans' hO2 (fun i _ hi => Or.inr hi)⟩, rfl⟩
        have e : gi = w1.heap.size := e
        have := Hi.out.lt
        omega)
      have b0 := hA'.box.cell 0
      have b1 := hA'.box.cell 1
      have b2 := hA'.box.cell 2
      have f1 := hA'.box.frozen 1
      have lb := hA'.box.lt
      obtain ⟨N, hN⟩ : ∃ N, r.next + 1 = N := ⟨_, rfl⟩
      rw [hN] at b0 HK
      simp at b0 b1 b2
      clear hA' hO hK hOw hwg hmy hbad hbad2 HE HRm hN hn1
      by_cases hv : r.version < 4294967295
      · have hd : decide (r.version < 4294967295) = true := decide_eq_true hv
        have hd2 : decide ((r.version : Int) < 4294967295) = true := decide_eq_true (by omega)
        have hvw : IntKind.u32.wrap ((r.version : Int) + 1) = (r.version : Int) + 1 := by rw [IntKind.wrap_u32]; omega
        have C := Lib.hid (HK.out (w2.setCell ⟨w1.heap.size, 1, none⟩ (.int .u32 ((r.version : Int) + 1))) (r.version + 1) (by omega) (by unfold bump; rw [if_pos hv]) ((Only.refl (· = w1.heap.size) w2).setCell (p := ⟨w1.heap.size, 1, none⟩) (Or.inl rfl) _))
        rw [show ((r.version + 1 : Nat) : Int) = (r.version : Int) + 1 by omega] at C
        clear HK hv
        go_wp2_with fail
        with_reducible refine C.out.mono ?_
        rintro e3 w3 ⟨h3, rfl⟩
        have H3 := Lib.hid h3
        clear h3
        go_wp2
        go_ret
        exact H3.out
      · have hd : decide (r.version < 4294967295) = false := decide_eq_false hv
        have hd2 : decide ((r.version : Int) < 4294967295) = false := decide_eq_false (by omega)
        have C := Lib.hid (HK.out w2 r.version hvs (by unfold bump; rw [if_neg hv]) (Only.refl _ _))
        clear HK hv
        go_wp2_with fail
        with_reducible refine C.out.mono ?_
        rintro e3 w3 ⟨h3, rfl⟩
        have H3 := Lib.hid h3
        clear h3
        go_wp2
        go_ret
        exact H3.out

end Go.Proofs.YtidbipbangifbaaGreatDoor

/- The walk over rms.Add. -/
namespace Go.Proofs.YtidbipbangifbaaGreatDoor
set_option maxRecDepth 100000
open Go.RowKit

/-- What Add answers. -/
def AddR (s mb p c e Z L : Nat) (M : Al Sv) (ss : List (Nat × List UInt8)) (B : Int) (suite name xs : List UInt8) (q : Option RcP × Int) (w : World) (e1 : Ending) (w' : World) : Prop :=
  match q with
  | (none, er) => e1 = .returned (.tuple #[.int .u32 0, .int .i64 er]) ∧ Below w.heap.size w w'
  | (some r, _) =>
    if 512 < xs.length ∨ 64 ≤ r.list.length ∨ r.next = 4294967295 then e1 = .returned (.tuple #[.int .u32 0, .int .i64 9]) ∧ Below w.heap.size w w'
    else e1 = .returned (.tuple #[.int .u32 (r.next : Int), .int .i64 0]) ∧ PutR s mb p c e Z L M ss B (keyL suite name) (rcB (addP r xs)) w w'

set_option maxHeartbeats 2000000 in
theorem rmAdd_any (s mb p c e Z L : Nat) (M : Al Sv) (h : HeadV) (ss : List (Nat × List UInt8)) (B : Int) (suite name : List UInt8) (D : Option Addr) (dn dc : Nat) (xs : List UInt8) (w : World) (G : GoodR w s mb p c e Z L M h ss B)
    (hD : ByteSl w Empty D dn dc xs ∧ (D = none → dn = 0 ∧ dc = 0))
    (hR : ∀ r er, storedQ suite name M = (some r, er) → ¬ (512 < xs.length ∨ 64 ≤ r.list.length ∨ r.next = 4294967295) → RoomC p c e s mb Z L M ss B (keyL suite name) (rcB (addP r xs))) (h1 : suite.length ≤ 1048576) (h2 : name.length ≤ 1048576) :
    Calls Tryz.prog 21 #[.pointer (some ⟨s, 0, none⟩), .string (strB suite), .string (strB name), .slice D dn dc] w fun e1 w' => AddR s mb p c e Z L M ss B suite name xs (storedQ suite name M) w e1 w' := by
  have hmt : ∀ q, w.heap.size ≤ q → ¬ Mut s mb p c e q := fun q hq hM => by have := G.g.mut_lt hM; omega
  have hal : Below w.heap.size w ((w.alloc (.cells #[.slice D dn dc] 22)).alloc (.cells #[.int .u32 0] 28)) := ((Below.refl w.heap.size w).alloc (Nat.le_refl _) _).alloc (by simp) _
  have hd : Blk ((w.alloc (.cells #[.slice D dn dc] 22)).alloc (.cells #[.int .u32 0] 28)) w.heap.size 22 #[.slice D dn dc] := (Blk.new w _ _).alloc _
  have hi : Blk ((w.alloc (.cells #[.slice D dn dc] 22)).alloc (.cells #[.int .u32 0] 28)) (w.heap.size + 1) 28 #[.int .u32 ((0 : Nat) : Int)] := by
    have k := Blk.new (w.alloc (.cells #[.slice D dn dc] 22)) 28 #[.int .u32 0]
    rwa [show (w.alloc (.cells #[.slice D dn dc] 22)).heap.size = w.heap.size + 1 by simp] at k
  have hD2 : ByteSl ((w.alloc (.cells #[.slice D dn dc] 22)).alloc (.cells #[.int .u32 0] 28)) (· = w.heap.size + 1) D dn dc xs := by
    refine ⟨hD.1.1, hD.1.2.1, hD.1.2.2.1, fun hn => ?_⟩
    obtain ⟨ad, e, hb, _, hc⟩ := hD.1.2.2.2 hn
    exact ⟨ad, e, by simp; omega, by omega, fun j x hx => ((Only.of_below (S := Empty) hal).cell (p := ad.add j) (by rw [addr_add_block]; exact hb) (fun h => h)).trans (hc j x hx)⟩
  have CC := Lib.hid (rmChangeAdd_any s mb p c e Z L M h ss B suite name w.heap.size (w.heap.size + 1) 0 D dn dc xs _ (G.below hal) hd hi ⟨hD2, hD.2⟩ (hmt _ (by omega)) (by omega) hR h1 h2)
  have HEr : Hid (∀ er, storedQ suite name M = (none, er) → er ≠ 0) := Lib.hid (fun er h => storedQ_er h)
  obtain ⟨o, er, hq⟩ : ∃ o er, storedQ suite name M = (o, er) := ⟨_, _, rfl⟩
  rw [hq] at CC HEr ⊢
  have Hal := Lib.hid hal
  have Hi := Lib.hid hi
  clear hR hq hD hD2 hd hi hal hmt G
  go_enter Tryz.func21, Tryz.ntmps21
  go_wp2_with fail
  refine CC.out.mono ?_
  intro e1 w1 hout
  cases o with
  | none =>
    obtain ⟨rfl, hb⟩ : e1 = _ ∧ Below _ _ _ := hout
    have hz := HEr.out er rfl
    have hq2 : (er != 0) = true := by simpa using hz
    have Hb := Lib.hid (Hal.out.trans (hb.mono Hal.out.size))
    clear hb hz HEr
    go_wp2
    go_ret2
    exact ⟨rfl, Hb.out⟩
  | some r =>
    unfold ChgAdd at hout
    simp only at hout
    by_cases hbad : 512 < xs.length ∨ 64 ≤ r.list.length ∨ r.next = 4294967295
    · rw [if_pos hbad] at hout
      obtain ⟨rfl, hb⟩ := hout
      have Hb := Lib.hid (Hal.out.trans (hb.mono Hal.out.size))
      have HE : Hid (∀ e1 w', e1 = .returned (.tuple #[.int .u32 0, .int .i64 9]) ∧ Below w.heap.size w w' → AddR s mb p c e Z L M ss B suite name xs (some r, er) w e1 w') := Lib.hid (fun e1 w' h => by unfold AddR; simp only; rw [if_pos hbad]; exact h)
      clear hb hbad HEr
      go_wp2
      go_ret2
      exact HE.out _ _ ⟨rfl, Hb.out⟩
    · rw [if_neg hbad] at hout
      obtain ⟨rfl, hbi, M', h', ss', hG, hss, hX, hM, hO⟩ := hout
      have HE : Hid (∀ e1 w', e1 = .returned (.tuple #[.int .u32 (r.next : Int), .int .i64 0]) ∧ PutR s mb p c e Z L M ss B (keyL suite name) (rcB (addP r xs)) w w' → AddR s mb p c e Z L M ss B suite name xs (some r, er) w e1 w') := Lib.hid (fun e1 w' h => by unfold AddR; simp only; rw [if_neg hbad]; exact h)
      have HP : Hid (PutR s mb p c e Z L M ss B (keyL suite name) (rcB (addP r xs)) w w1) := Lib.hid ⟨M', h', ss', hG, hss, hX, hM, (Only.of_below Hal.out).trans' hO (fun i hi hs => by
        rcases hs with hs | hs
        · omega
        · exact hs)⟩
      have i0 := hbi.cell 0
      have li := hbi.lt
      simp at i0
      clear hbi hG hss hX hM hO hbad HEr
      go_wp2
      go_ret2
      exact HE.out _ _ ⟨rfl, HP.out⟩

end Go.Proofs.YtidbipbangifbaaGreatDoor

/- The walk over law 9's fixed. -/
namespace Go.Proofs.YtidbipbangifbaaGreatDoor
set_option maxRecDepth 100000
open Go.RowKit

/-- Since w1 only new blocks have turned. -/
abbrev Lat (w1 W : World) : Prop := Only (fun q => w1.heap.size ≤ q) w1 W
theorem Lat.below {w1 W W' : World} (h : Lat w1 W) (b : Below W.heap.size W W') : Lat w1 W' := Only.trans h ((Only.of_below b).mono (fun _ _ h => h))
theorem Lat.muts {w0 w1 w2 W W' : World} {s mb p c e : Nat} (h : Lat w1 W) (A : Apart w0 w2 s mb p c e) (h1 : w1.heap.size ≤ w0.heap.size) (o : Only (Mut s mb p c e) W W') : Lat w1 W' := Only.trans h (o.mono (fun q _ hq => Nat.le_trans h1 (A.muts q hq).1))
theorem Lat.back {w w1 W : World} (h : Lat w1 W) (b : Below w.heap.size w w1) : Below w.heap.size w W := b.trans (Only.below h b.size (fun k hk hS => by have hS : w1.heap.size ≤ k := hS; have h3 := b.size; omega))
theorem Lat.bytes {w1 W : World} {A : Option Addr} {n cap : Nat} {xs : List UInt8} (h : Lat w1 W) (hB : ByteSl w1 Empty A n cap xs) : ByteSl W Empty A n cap xs := by
  have hB' : ByteSl w1 (fun q => w1.heap.size ≤ q) A n cap xs := hB.mono (fun q hq hS => by have hS : w1.heap.size ≤ q := hS; omega)
  exact (hB'.only h (fun _ _ h => h)).mono (fun _ _ h => h.elim)

def kAB : List UInt8 := keyL [97] [98]
def rc1 : List UInt8 := rcB (addP ⟨1, 0, []⟩ [120])
theorem kAB_len : kAB.length = 5 := by decide
theorem rc1_parse : parseQ rc1 = some (addP ⟨1, 0, []⟩ [120]) := parse_put _ (by decide) (by decide) (by decide)
theorem stored_nil : storedQ [97] [98] [] = (none, 11) := by
  unfold storedQ
  rw [rawQ_blobs (by decide) (by decide)]
  rfl
theorem stored_one {M : Al Sv} {b : List UInt8} {r : RcP} (h : blobsOf (amap Sv.a M) = [(kAB, b)]) (hr : parseQ b = some r) : storedQ [97] [98] M = (some r, 8) := by
  unfold storedQ
  have h1 : rawQ [97] [98] M = (b, 0) := by
    rw [rawQ_blobs (by decide) (by decide), h]
    have : afind [(kAB, b)] (keyL [97] [98]) = some b := by unfold afind; rw [List.find?_cons_of_pos (by simp [kAB])]; rfl
    rw [this]
  rw [h1, if_pos rfl, hr]
theorem get_one {M : Al Sv} (h : blobsOf (amap Sv.a M) = [(kAB, rc1)]) : getQ [97] [98] 1 M = ([120], 0) := by
  unfold getQ
  rw [stored_one h rc1_parse]
  rfl
theorem put_one : aput ([(kAB, rc0)] : AB) kAB rc1 = [(kAB, rc1)] := by
  unfold aput adel
  simp [ains]
theorem names_nil : (namesR [97] ([] : Al Sv)).length < 8 := by unfold namesR; split <;> decide

set_option maxHeartbeats 8000000 in
theorem fixed9_any (w : World) (hM : Mark w) : Calls Tryz.prog 6 #[] w fun e w' => e = .returned (.bool true) ∧ Below w.heap.size w w' := by
  have HM := Lib.hid hM
  have C1 : Hid (Calls Tryz.prog 20 #[.agg #[.int .u32 1, .int .u32 0, .slice none 0 0]] w fun e w' => (∃ A c, e = .returned (.tuple #[.slice A 10 c, .int .i64 0]) ∧ ByteSl w' Empty A 10 c rc0) ∧ Below w.heap.size w w') := Lib.hid ((rmBytes_yes 1 0 none 0 0 [] w (by omega) (by omega) (EntsAt.nil_ _ _) (by decide)).mono fun e w' ⟨⟨u, he, hu⟩, hb⟩ => by
    obtain ⟨A, c, rfl, hB, -⟩ := ByteSl.of_own (S := Empty) hu (fun _ _ _ h => h)
    exact ⟨⟨A, c, he, hB⟩, hb⟩)
  have h0w : 0 < w.heap.size := hM.pos
  clear hM
  go_enter Tryz.func6, Tryz.ntmps6
  go_wp2_with fail
  refine C1.out.mono ?_
  rintro e w1 ⟨⟨A1, c1, rfl, hB1⟩, hb1⟩
  have HB1 : Hid (ByteSl w1 Empty A1 10 c1 rc0) := Lib.hid hB1
  have Hb1 := Lib.hid hb1
  have C2 := Lib.hid (made_any 6 512 w1 (HM.out.below hb1) ⟨by decide, by decide, by decide, by decide, by decide, by decide⟩ (by decide) (by decide) (by decide))
  clear hb1 hB1 C1
  go_wp2_with fail
  refine C2.out.mono ?_
  rintro e w2 ⟨⟨s, mb, p, c, er, rfl, hG, hA⟩, hb2⟩
  have HA := Lib.hid hA
  have HL2 := Lib.hid (Lat.below (Only.refl _ w1) hb2)
  have hz2 : ¬ Mut s mb p c er 0 := hA.zero (by have := Hb1.out.size; omega)
  have Hz2 := Lib.hid hz2
  have HG2 := Lib.hid hG
  have C3 := Lib.hid (rmOpen_any s mb p c er 512 100000 [] ⟨0, 0, 0, 0⟩ (freshS 6 512) 0 [97] [98] false w2 hG (fun _ _ => room_of (by decide) hA.three hz2 (by rw [freshS_len]; omega) (by rw [freshS_len]; omega) (by decide) (by decide) (by omega) (by rw [freshS_len]; decide) (by omega) rfl) (by have := hb2.size; have := Hb1.out.size; omega) (by decide) hG.g.sizes.1 hG.g.sizes.2 (by decide) (by decide))
  clear hG hA hb2 hz2 C2
  go_wp2_with fail
  refine C3.out.mono ?_
  intro e w3 hO3
  rcases hO3 with ⟨-, hr3, hb3⟩ | ⟨-, h, -⟩ | ⟨-, h, -⟩
  rotate_left
  · cases h
  · cases h
  rw [stored_nil] at hr3
  have hr3 : e = .returned (.tuple #[Rec_ 0 0 none 0 0, .int .i64 11]) := hr3
  subst hr3
  unfold Rec_
  obtain ⟨W3, hW3⟩ : ∃ W3, W3 = w3.alloc (.cells #[.int .u32 ((0 : Nat) : Int), .int .u32 ((0 : Nat) : Int), .slice none 0 0] 31) := ⟨_, rfl⟩
  have hb3' : Below w2.heap.size w2 W3 := by rw [hW3]; exact hb3.alloc hb3.size _
  have HG3 := Lib.hid (HG2.out.below hb3')
  have HL3 := Lib.hid (HL2.out.below hb3')
  have HW3 := Lib.hid hW3
  have C4 := Lib.hid (rmOpen_any s mb p c er 512 100000 [] ⟨0, 0, 0, 0⟩ (freshS 6 512) 0 [97] [98] true W3 HG3.out (fun _ _ => room_of (by decide) HA.out.three Hz2.out (by rw [freshS_len]; omega) (by rw [freshS_len]; omega) (by decide) (by decide) (by omega) (by rw [freshS_len]; decide) (by omega) rfl) (by have := HL3.out.size; have := Hb1.out.size; omega) (by decide) HG3.out.g.sizes.1 HG3.out.g.sizes.2 (by decide) (by decide))
  clear hb3 hb3' hW3 C3
  go_wp2_with fail
  rw [show (w3.alloc (.cells #[.int .u32 0, .int .u32 0, .slice none 0 0] 31)) = W3 from HW3.out.symm]
  refine C4.out.mono ?_
  intro e w4 hO4
  rcases hO4 with ⟨h, -⟩ | ⟨-, -, h, -⟩ | ⟨-, -, -, rfl, M4, h4, ss4, hG4, hss4, hY4, -, hm4⟩
  · exact absurd ⟨stored_nil, rfl⟩ h
  · have := names_nil; omega
  have hY4 : blobsOf (amap Sv.a M4) = [(kAB, rc0)] := hY4
  have hl4 : M4.length = 1 := by rw [← len_blobs, hY4]; rfl
  rw [freshS_len] at hss4 hG4
  have HL4 := Lib.hid (HL3.out.muts HA.out (Nat.le_refl _) hm4)
  unfold Rec_
  obtain ⟨W4, hW4⟩ : ∃ W4, W4 = (w4.alloc (.cells #[.int .u32 1, .int .u32 0, .slice none 0 0] 31)).alloc (.cells #[.int .u8 120] 5 (1, 2)) := ⟨_, rfl⟩
  have hb4 : Below w4.heap.size w4 W4 := by rw [hW4]; exact ((Below.refl _ _).alloc (Nat.le_refl _) _).alloc (by simp) _
  have hG4' := hG4.below hb4
  have HL4' := Lib.hid (HL4.out.below hb4)
  have hs4 : (w4.alloc (.cells #[.int .u32 1, .int .u32 0, .slice none 0 0] 31)).heap.size = w4.heap.size + 1 := by simp
  have hX4 : ByteSl W4 Empty (some ⟨w4.heap.size + 1, 0, none⟩) 1 1 [120] := by
    rw [hW4, ← hs4]
    exact ByteSl.marked _ _ [120] 1 _ rfl (fun h => h) (by decide)
  have C5 := Lib.hid (rmAdd_any s mb p c er 512 100000 M4 h4 ss4 (0 + 8 * (6 : Nat)) [97] [98] (some ⟨w4.heap.size + 1, 0, none⟩) 1 1 [120] W4 hG4' ⟨hX4, fun h => by cases h⟩ (fun r er' hst _ => by
    rw [stored_one hY4 rc0_parse] at hst
    cases hst
    exact room_of (by omega) HA.out.three Hz2.out (by omega) (by omega) (by decide) (by decide) (by omega) (by rw [hY4, hss4]; decide) (by omega) rfl) (by decide) (by decide))
  have hst4 := stored_one hY4 rc0_parse
  have C5' := C5.out
  rw [hst4] at C5'
  have C5 := Lib.hid C5'
  have HY4 := Lib.hid hY4
  have Hss4 := Lib.hid hss4
  have HW4 := Lib.hid hW4
  have kc := Lib.run_convert_bytes_const (P := Tryz.prog) (w4.alloc (.cells #[.int .u32 1, .int .u32 0, .slice none 0 0] 31)) 22 5 #[.int .u8 120] 1 1 Tryz.underlying22 Tryz.underlying5
  rw [hs4] at kc
  clear hG4 hss4 hY4 hm4 hb4 hG4' hs4 hX4 hst4 C5' C4 hW4
  go_wp2_with fail
  rw [← HW4.out]
  refine C5.out.mono ?_
  intro e w5 hA5
  have hA5 : e = .returned (.tuple #[.int .u32 1, .int .i64 0]) ∧ PutR s mb p c er 512 100000 M4 ss4 (0 + 8 * (6 : Nat)) (keyL [97] [98]) rc1 W4 w5 := by
    unfold AddR at hA5
    simp only at hA5
    rwa [if_neg (by decide)] at hA5
  obtain ⟨rfl, M5, h5, ss5, hG5, hss5, hY5, -, hm5⟩ := hA5
  have hY5 : blobsOf (amap Sv.a M5) = [(kAB, rc1)] := by
    rw [hY5, HY4.out]
    exact put_one
  have HL5 := Lib.hid (HL4'.out.muts HA.out (Nat.le_refl _) hm5)
  have C6 := rmGet_any s mb p c er M5 h5 false [97] [98] 1 w5 hG5.g.st hG5.g.sizes.1 hG5.g.sizes.2 (by decide) (by decide)
  rw [get_one hY5] at C6
  have C6 := Lib.hid C6
  clear hG5 hss5 hY5 hm5 C5 kc
  go_wp2_with fail
  refine C6.out.mono ?_
  rintro e w6 ⟨⟨A6, c6, rfl, hG6⟩, hb6⟩
  have HL6 := Lib.hid (HL5.out.below hb6)
  have h1 : (convert 22 9 (.slice A1 10 c1)).run Tryz.prog w6 = .ok (.string (strB rc0)) w6 := conv_bytes (HL6.out.bytes HB1.out)
  have h2 : (convert 22 9 (.slice A6 1 c6)).run Tryz.prog w6 = .ok (.string (strB [120])) w6 := conv_bytes hG6.bytes
  have e1 : strB rc0 = ⟨#[0, 0, 0, 1, 0, 0, 0, 0, 0, 0]⟩ := by decide
  have e2 : strB [120] = ⟨#[120]⟩ := rfl
  rw [e1] at h1
  rw [e2] at h2
  clear hb6 hG6 C6 e1 e2
  go_wp2
  go_ret
  exact ⟨rfl, HL6.out.back Hb1.out⟩

end Go.Proofs.YtidbipbangifbaaGreatDoor
