/- The walks over the document's Parse, where the mark is right; Parse as one answer, the program's and the document's. -/
import Derived.Test.YtnhfmcijadficaaGreatDoorZai
import Derived.Deep.RegionHeld3
import Derived.Shelf.Bytes.SlCountOne
import Derived.Test.YtnhfmcijadficaaGreatDoorZae
namespace Go.Proofs.YtnhfmcijadficaaGreatDoor
set_option maxRecDepth 100000
open Go.RowKit


/-! ### Parse as one answer -/
theorem two_of {xs : List UInt8} (h : 12 ≤ xs.length) : ∃ x y, xs[0]? = some x ∧ xs[1]? = some y := ⟨_, _, List.getElem?_eq_getElem (by omega), List.getElem?_eq_getElem (by omega)⟩

theorem parse_any (A : Option Addr) (n cap : Nat) (xs : List UInt8) (w : World) (hB : ByteSl w Empty A n cap xs) (hM : Mark w) (hn : n ≤ 1048576) :
    Calls Tryz.prog 136 #[.slice A n cap] w fun e w' => ParseOk xs w w' e := by
  by_cases h : n < 12
  · exact parse_short A n cap xs w hB.1 h
  · obtain ⟨⟨b, o, sp⟩, rfl, -, -, -⟩ := hB.2.2.2 (by omega)
    obtain ⟨x, y, h0, h1⟩ := two_of (xs := xs) (by have := hB.1; omega)
    by_cases hm : x = 67 ∧ y = 66
    · obtain ⟨rfl, rfl⟩ := hm
      by_cases hs : getV ((xs.drop 6).take 2) = (crc16 (xs.take 6)).toNat
      · exact parse_yes b o sp n cap xs w hB hM (by omega) hn h0 h1 hs
      · exact parse_sum b o sp n cap xs w hB hM (by omega) hn h0 h1 hs
    · exact parse_form ⟨b, o, sp⟩ n cap xs x y w hB hM (by omega) hn h0 h1 hm


end Go.Proofs.YtnhfmcijadficaaGreatDoor

/- The walks over bytes.Count (one byte) and page.state. -/
namespace Go.Proofs.YtnhfmcijadficaaGreatDoor
set_option maxRecDepth 100000
open Go.RowKit

/-- How often the byte c stands among bytes that lie somewhere. -/
theorem count_run (A : Option Addr) (n cap : Nat) (xs : List UInt8) (c : UInt8) (w : World) (hB : ByteSl w Empty A n cap xs) :
    (Extern.BytealgCount.count #[.slice A n cap, .int .u8 (c.toNat : Int)]).run Tryz.prog w = .ok (.int .i64 ((xs.count c : Nat) : Int)) w := by
  have hback : Lib.bytesOf (xs.map fun x => ((x.toNat : Int))) = xs := by
    unfold Lib.bytesOf
    rw [List.map_map]
    conv => rhs; rw [← List.map_id xs]
    apply List.map_congr_left
    intro x _
    apply UInt8.toNat_inj.1
    simp
  by_cases h0 : n = 0
  · subst h0
    have hx : xs = [] := List.eq_nil_of_length_eq_zero hB.1
    subst hx
    rcases A with _ | ad
    · exact Lib.run_countNil w 0 cap _
    · exact Lib.run_countAt w ad 0 cap [] rfl (fun i hi => absurd hi (by omega)) _
  · obtain ⟨ad, rfl, hbl, -, hc⟩ := hB.2.2.2 (by omega)
    have h := Lib.run_countAt (P := Tryz.prog) w ad n cap (xs.map fun x => ((x.toNat : Int))) (by simp [hB.1]) (fun i hi => by
      have hl : i < xs.length := by have := hB.1; omega
      rw [hc i _ (List.getElem?_eq_getElem hl)]
      simp [List.getD, hl, B8]) (c.toNat : Int)
    rw [hback] at h
    have hcc : ((c.toNat : Int)).toNat.toUInt8 = c := by
      apply UInt8.toNat_inj.1
      simp
    rw [hcc] at h
    exact h

set_option maxHeartbeats 1000000 in
theorem count_any (A : Option Addr) (n cap : Nat) (xs : List UInt8) (g : Nat) (w : World) (hB : ByteSl w Empty A n cap xs) (hc : w.cell? ⟨g, 0, none⟩ = some (.int .u8 255)) :
    Calls Tryz.prog 137 #[.slice A n cap, .slice (some ⟨g, 0, none⟩) 1 1] w fun e w' => e = .returned (.int .i64 ((xs.count 255 : Nat) : Int)) ∧ w = w' := by
  have hr : (Extern.BytealgCount.count #[.slice A n cap, .int .u8 255]).run Tryz.prog w = .ok (.int .i64 ((xs.count 255 : Nat) : Int)) w := count_run A n cap xs 255 w hB
  have Hr := Lib.hid hr
  clear hr
  clear hB
  go_enter Tryz.func137, Tryz.ntmps137
  go_wp2
  rw [run_callFunc_extern Tryz.func171 (by kernel_rfl) (by kernel_rfl) (by kernel_rfl) (e := Extern.BytealgCount.count) (by kernel_rfl), Hr.out]
  simp only [Result.andThen]
  rw [Oper.upon_value]
  go_wp2
  go_ret
  exact ⟨rfl, rfl⟩

/-- Do bytes begin with a header that is right, live and not void? -/
def stU (xs : List UInt8) : Bool := decide (parseC xs = 0) && (parseH xs).live && !(parseH xs).void
/-- What state a sector of these bytes has: 2 used, 0 blank, 1 dirty. -/
def stS (xs : List UInt8) : Int := if stU xs = true then 2 else if xs.count 255 = xs.length then 0 else 1
/-- Its number. -/
def stQ (xs : List UInt8) : Int := if stU xs = true then ((parseH xs).seq : Int) else 0
def stV (xs : List UInt8) : Value := .agg #[.int .i64 (stS xs), .int .u32 (stQ xs), .int .i64 0]

set_option maxHeartbeats 4000000 in
theorem state_any (A : Option Addr) (n cap : Nat) (xs : List UInt8) (w : World) (hB : ByteSl w Empty A n cap xs) (hM : Mark w) (hn : n ≤ 1048576) :
    Calls Tryz.prog 110 #[.slice A n cap] w fun e w' => e = .returned (stV xs) ∧ Below w.heap.size w w' := by
  have Hl := Lib.hid hB.1
  obtain ⟨q, l, v, hv⟩ : ∃ (q : Int) (l v : Bool), (parseH xs).v = .agg #[.int .u32 q, .bool l, .bool v] ∧ (parseH xs).live = l ∧ (parseH xs).void = v ∧ ((parseH xs).seq : Int) = q := ⟨_, _, _, rfl, rfl, rfl, rfl⟩
  obtain ⟨c, hc⟩ : ∃ c, parseC xs = c := ⟨_, rfl⟩
  have Hv := Lib.hid hv
  have Hc := Lib.hid hc
  have HB := Lib.hid (hB.only ((Only.refl Empty w).alloc (.cells #[.int .i64 0, .int .u32 0, .int .i64 0] 96)) (fun _ _ h => h))
  have HM := Lib.hid (hM.below ((Below.refl w.heap.size w).alloc (Nat.le_refl _) (.cells #[.int .i64 0, .int .u32 0, .int .i64 0] 96)))
  have Hk0 := Lib.hid (Blk.new w 96 #[.int .i64 0, .int .u32 0, .int .i64 0])
  clear hv hc hB hM
  go_enter Tryz.func110, Tryz.ntmps110
  go_wp2_with fail
  refine (parse_any A n cap xs _ HB.out HM.out hn).mono ?_
  rintro e1 w1 ⟨he, hb1⟩
  rw [Hv.out.1, Hc.out] at he
  subst he
  have Hk1 := Lib.hid (Hk0.out.of (hb1.block w.heap.size (by simp)))
  have Hb1 := Lib.hid ((((Below.refl w.heap.size w).alloc (Nat.le_refl _) (.cells #[.int .i64 0, .int .u32 0, .int .i64 0] 96))).trans (hb1.mono (by simp)))
  have HB1 := Lib.hid ((HB.out.only (Only.of_below (S := Empty) hb1) (fun _ _ h => h)).only ((Only.refl Empty w1).alloc (.cells #[.int .u32 q, .bool l, .bool v] 210)) (fun _ _ h => h))
  have hz1 : w.heap.size < w1.heap.size := Hk1.out.lt
  clear hb1
  have Hk2 := Lib.hid (Hk1.out.alloc (.cells #[.int .u32 q, .bool l, .bool v] 210))
  have c0 := Hk2.out.cell 0
  have c1 := Hk2.out.cell 1
  have c2 := Hk2.out.cell 2
  have f0 := Hk2.out.frozen 0
  have f1 := Hk2.out.frozen 1
  have f2 := Hk2.out.frozen 2
  have d0 := Hk1.out.cell 0
  have d1 := Hk1.out.cell 1
  have d2 := Hk1.out.cell 2
  have g0 := Hk1.out.frozen 0
  have g1 := Hk1.out.frozen 1
  have g2 := Hk1.out.frozen 2
  simp at c0 c1 c2 d0 d1 d2
  by_cases hu : stU xs = true
  · have hu2 := hu
    unfold stU at hu2
    rw [Hc.out, Hv.out.2.1, Hv.out.2.2.1] at hu2
    simp at hu2
    obtain ⟨⟨rfl, rfl⟩, rfl⟩ := hu2
    have Hu := Lib.hid hu
    clear hu
    go_wp2
    refine bodyPost_ret (v := .agg #[.int .i64 2, .int .u32 q, .int .i64 0]) (by simp [results, Tryz.results110, go_sem, d0, d1, d2, hz1]) rfl ⟨?_, ?_⟩
    · rw [stV, stS, stQ, if_pos Hu.out, if_pos Hu.out, Hv.out.2.2.2]
    · exact ((((Hb1.out.setCell (by simp) _).setCell (by simp) _).setCell (by simp) _).alloc (by have := Hb1.out.size; simp [World.setCell]; omega) _)
  · have hu2 : (c == 0 && l && !v) = false := by
      have h : stU xs = false := by simpa using hu
      unfold stU at h
      rw [Hc.out, Hv.out.2.1, Hv.out.2.2.1] at h
      rw [← h]
      congr 2
    have Hu := Lib.hid hu
    clear hu
    have hB2 := HB1.out.only ((Only.refl Empty _).alloc (.cells #[.int .u8 255] 5)) (fun _ _ h => h)
    have HB2 := Lib.hid hB2
    have hcnt : xs.count 255 ≤ xs.length := List.count_le_length
    have hxl := Hl.out
    obtain ⟨k, hk⟩ : ∃ k, xs.count 255 = k := ⟨_, rfl⟩
    rw [hk] at hcnt
    have Hk := Lib.hid hk
    have hkn : k ≤ n := by omega
    clear hB2 hcnt hk hxl
    have hway : ((c == 0) = false) ∨ (c = 0 ∧ l = false) ∨ (c = 0 ∧ l = true ∧ v = true) := by
      by_cases h : c = 0
      · subst h
        cases l <;> cases v <;> simp_all
      · exact Or.inl (by simpa using h)
    have hend : Hid (stV xs = .agg #[.int .i64 (if k = n then 0 else 1), .int .u32 0, .int .i64 0]) := Lib.hid (by rw [stV, stS, stQ, if_neg Hu.out, if_neg Hu.out, Hk.out, Hl.out])
    clear hu2 Hc Hv
    by_cases hkk : k = n
    · rw [if_pos hkk] at hend
      subst hkk
      have heq : ((k : Int) == (k : Int)) = true := by simp
      rcases hway with hq | ⟨rfl, rfl⟩ | ⟨rfl, rfl, rfl⟩
      all_goals
        go_wp2_with fail
        refine (count_any A k cap xs (w1.heap.size + 1) _ HB2.out (by go_simp)).mono ?_
        rintro e1 w2 ⟨rfl, rfl⟩
        rw [Hk.out]
        go_wp2
        refine bodyPost_ret (v := .agg #[.int .i64 0, .int .u32 0, .int .i64 0]) (by simp [results, Tryz.results110, go_sem, d0, d1, d2, hz1]) rfl ⟨by rw [hend.out], ?_⟩
        exact (((((Hb1.out.setCell (by simp) _).setCell (by simp) _).setCell (by simp) _).alloc (by have := Hb1.out.size; simp [World.setCell]; omega) _).alloc (by have := Hb1.out.size; simp [World.setCell]; omega) _)
    · rw [if_neg hkk] at hend
      have heq : ((k : Int) == (n : Int)) = false := by rw [beq_eq_false_iff_ne]; omega
      rcases hway with hq | ⟨rfl, rfl⟩ | ⟨rfl, rfl, rfl⟩
      all_goals
        go_wp2_with fail
        refine (count_any A n cap xs (w1.heap.size + 1) _ HB2.out (by go_simp)).mono ?_
        rintro e1 w2 ⟨rfl, rfl⟩
        rw [Hk.out]
        go_wp2
        refine bodyPost_ret (v := .agg #[.int .i64 1, .int .u32 0, .int .i64 0]) (by simp [results, Tryz.results110, go_sem, d0, d1, d2, hz1]) rfl ⟨by rw [hend.out], ?_⟩
        exact (((((Hb1.out.setCell (by simp) _).setCell (by simp) _).setCell (by simp) _).alloc (by have := Hb1.out.size; simp [World.setCell]; omega) _).alloc (by have := Hb1.out.size; simp [World.setCell]; omega) _)

end Go.Proofs.YtnhfmcijadficaaGreatDoor

/- The walks over mayBe and New. -/
namespace Go.Proofs.YtnhfmcijadficaaGreatDoor
set_option maxRecDepth 100000
open Go.RowKit

theorem within_yes (a b c : Int) (w : World) (h : b ≤ a ∧ a ≤ c) :
    Calls Tryz.prog 68 #[.int .i64 a, .int .i64 b, .int .i64 c] w fun e w' => e = .returned (.bool true) ∧ w = w' :=
  (within_any a b c w).mono fun e w' ⟨he, hw⟩ => ⟨by rw [he]; simp [h.1, h.2], hw⟩
theorem within_no (a b c : Int) (w : World) (h : a < b ∨ c < a) :
    Calls Tryz.prog 68 #[.int .i64 a, .int .i64 b, .int .i64 c] w fun e w' => e = .returned (.bool false) ∧ w = w' :=
  (within_any a b c w).mono fun e w' ⟨he, hw⟩ => ⟨by rw [he]; congr 2; simp; omega, hw⟩

/-- A geometry that may be. -/
structure GeoOk (S Z L : Int) : Prop where
  s1 : 1 ≤ S
  s2 : S ≤ 64
  z1 : 64 ≤ Z
  z2 : Z ≤ 65536
  l1 : 1 ≤ L
  l2 : L ≤ 1048576

set_option maxHeartbeats 1000000 in
theorem mayBe_yes (S Z L : Int) (w : World) (h : GeoOk S Z L) :
    Calls Tryz.prog 31 #[.agg #[.int .i64 S, .int .i64 Z, .int .i64 L]] w fun e w' => e = .returned (.bool true) ∧ w' = w.alloc (.cells #[.int .i64 S, .int .i64 Z, .int .i64 L] 29) := by
  go_enter Tryz.func31, Tryz.ntmps31
  go_wp2_with fail
  refine (within_yes _ _ _ _ ⟨h.s1, h.s2⟩).mono ?_
  rintro e1 w1 ⟨rfl, rfl⟩
  go_wp2_with fail
  refine (within_yes _ _ _ _ ⟨h.z1, h.z2⟩).mono ?_
  rintro e1 w1 ⟨rfl, rfl⟩
  go_wp2_with fail
  refine (within_yes _ _ _ _ ⟨h.l1, h.l2⟩).mono ?_
  rintro e1 w1 ⟨rfl, rfl⟩
  go_wp2
  go_ret
  exact ⟨rfl, rfl⟩

set_option maxHeartbeats 1000000 in
theorem mayBe_no (S Z L : Int) (w : World) (h : ¬ GeoOk S Z L) :
    Calls Tryz.prog 31 #[.agg #[.int .i64 S, .int .i64 Z, .int .i64 L]] w fun e w' => e = .returned (.bool false) ∧ w' = w.alloc (.cells #[.int .i64 S, .int .i64 Z, .int .i64 L] 29) := by
  have Hh := Lib.hid h
  clear h
  by_cases hS : 1 ≤ S ∧ S ≤ 64
  · by_cases hZ : 64 ≤ Z ∧ Z ≤ 65536
    · have hL : L < 1 ∨ 1048576 < L := by
        rcases Int.lt_or_le L 1 with h | h
        · exact Or.inl h
        · refine Or.inr (Int.not_le.1 fun h2 => Hh.out ⟨hS.1, hS.2, hZ.1, hZ.2, h, h2⟩)
      go_enter Tryz.func31, Tryz.ntmps31
      go_wp2_with fail
      refine (within_yes _ _ _ _ hS).mono ?_
      rintro e1 w1 ⟨rfl, rfl⟩
      go_wp2_with fail
      refine (within_yes _ _ _ _ hZ).mono ?_
      rintro e1 w1 ⟨rfl, rfl⟩
      go_wp2_with fail
      refine (within_no _ _ _ _ hL).mono ?_
      rintro e1 w1 ⟨rfl, rfl⟩
      go_wp2
      go_ret
      exact ⟨rfl, rfl⟩
    · go_enter Tryz.func31, Tryz.ntmps31
      go_wp2_with fail
      refine (within_yes _ _ _ _ hS).mono ?_
      rintro e1 w1 ⟨rfl, rfl⟩
      go_wp2_with fail
      refine (within_no _ _ _ _ (by omega)).mono ?_
      rintro e1 w1 ⟨rfl, rfl⟩
      go_wp2
      go_ret
      exact ⟨rfl, rfl⟩
  · go_enter Tryz.func31, Tryz.ntmps31
    go_wp2_with fail
    refine (within_no _ _ _ _ (by omega)).mono ?_
    rintro e1 w1 ⟨rfl, rfl⟩
    go_wp2
    go_ret
    exact ⟨rfl, rfl⟩

set_option maxHeartbeats 1000000 in
theorem new_no (S Z L : Int) (w : World) (h : ¬ GeoOk S Z L) :
    Calls Tryz.prog 8 #[.agg #[.int .i64 S, .int .i64 Z, .int .i64 L]] w fun e w' => e = .returned (.tuple #[.pointer none, .int .i64 1]) ∧ Below w.heap.size w w' := by
  have Hh := Lib.hid h
  clear h
  go_enter Tryz.func8, Tryz.ntmps8
  go_wp2_with fail
  refine (mayBe_no _ _ _ _ Hh.out).mono ?_
  rintro e1 w1 ⟨rfl, rfl⟩
  go_wp2
  go_ret2
  exact ⟨rfl, ((Below.refl _ _).alloc (Nat.le_refl _) _).alloc (by simp) _⟩

/-- A new flash. -/
def Fl.fresh (S Z L : Nat) : Fl := { S := S, Z := Z, L := L, bs := List.replicate (S * Z) 255, er := List.replicate S 0, up := true, fuse := -1, keep := 0, mask := 0 }

/-- What New gives. -/
def NewOk (w w' : World) (S Z L : Nat) (e : Ending) : Prop :=
  ∃ p c er, e = .returned (.tuple #[.pointer (some ⟨p, 0, none⟩), .int .i64 0]) ∧ FlashAt w' p c er (Fl.fresh S Z L) ∧ Below w.heap.size w w' ∧ w.heap.size ≤ p ∧ w.heap.size ≤ c ∧ w.heap.size ≤ er

theorem Tryz.infoInt : (Tryz.prog.info? 3).map (fun i => (i.zero, i.size, i.bytes)) = some (some (.int .i64 0), 1, 8) := by kernel_rfl

theorem made_ints (n : Nat) : madeCells #[.int .i64 0] n = ((List.replicate n 0).map fun (n : Nat) => Value.int .i64 (n : Int)).toArray := by
  apply Array.ext'
  rw [toList_madeCells_one]
  simp
theorem filled_all (n : Nat) : (List.replicate n (0 : UInt8)).mapIdx (fillF 0 n) = List.replicate n 255 := by
  apply List.ext_getElem?
  intro j
  rw [List.getElem?_mapIdx, List.getElem?_replicate, List.getElem?_replicate]
  by_cases h : j < n
  · simp [h, fillF]
  · simp [h]

theorem Blk.new' {w : World} {g : Nat} {t : TypeId} {cs : Array Value} (h : g = w.heap.size) : Blk (w.alloc (.cells cs t)) g t cs := by rw [h]; exact Blk.new w t cs

theorem fresh_ok {S Z L : Nat} (h : GeoOk S Z L) : (Fl.fresh S Z L).Ok := by
  obtain ⟨a, b, c, d, e, f⟩ := h
  refine ⟨?_, ?_, ?_, ?_, ?_, ?_, ?_, ?_, ?_, ?_, ?_, ?_, ?_⟩ <;> simp only [Fl.fresh] <;> first | omega | (simp; done) | skip
  intro i n hi
  rw [List.getElem?_replicate] at hi
  split at hi
  · cases hi; omega
  · cases hi

theorem new_end {w W w2 : World} {p c er S Z L T : Nat} (h : GeoOk S Z L) (hT : T = S * Z) (hb : Below w.heap.size w W) (hp : w.heap.size ≤ p) (hc : w.heap.size ≤ c) (he : w.heap.size ≤ er) (hpc : p ≠ c) (hec : er ≠ c)
    (hd : Blk W p 78 #[.int .i64 (S : Int), .int .i64 (Z : Int), .int .i64 (L : Int), .slice (some ⟨c, 0, none⟩) T T, .slice (some ⟨er, 0, none⟩) S S, .bool true, .int .i64 (-1), .int .i64 0, .int .u8 0])
    (hr : Blk W er 3 (madeCells #[.int .i64 0] S)) (hcc : Blk w2 c 5 (cellsB ((List.replicate T 0).mapIdx (fillF 0 T)))) (ho : Only (· = c) W w2) :
    NewOk w w2 S Z L (.returned (.tuple #[.pointer (some ⟨p, 0, none⟩), .int .i64 0])) := by
  subst hT
  have hd2 := ho.blk hd hpc
  have hr2 := ho.blk hr hec
  rw [filled_all] at hcc
  rw [made_ints] at hr2
  refine ⟨p, c, er, rfl, ⟨fresh_ok h, hd2, hcc, hr2⟩, ?_, hp, hc, he⟩
  exact hb.trans ((ho.below hb.size (by intro k hk e; omega)))

set_option maxHeartbeats 2000000 in
theorem new_yes (S Z L : Nat) (w : World) (h : GeoOk S Z L) :
    Calls Tryz.prog 8 #[.agg #[.int .i64 (S : Int), .int .i64 (Z : Int), .int .i64 (L : Int)]] w fun e w' => NewOk w w' S Z L e := by
  have hT : S * Z ≤ 64 * 65536 := Nat.mul_le_mul (by have := h.s2; omega) (by have := h.z2; omega)
  have hs2 := h.s2
  obtain ⟨T, hTe⟩ : ∃ T, T = S * Z := ⟨_, rfl⟩
  have hmul : IntKind.i64.wrap ((S : Int) * (Z : Int)) = (T : Int) := by
    have : (S : Int) * (Z : Int) = ((S * Z : Nat) : Int) := by simp
    rw [this, ← hTe, IntKind.wrap_i64]
    omega
  rw [← hTe] at hT
  have hmk1 := fun W => run_make_row' (P := Tryz.prog) 22 5 (.int .u8 0) 1 Tryz.underlying22 Tryz.infoU8 rfl .i64 .i64 T (by omega) (by omega) W
  have hmk2 := fun W => run_make_row' (P := Tryz.prog) 76 3 (.int .i64 0) 8 Tryz.underlying76 Tryz.infoInt rfl .i64 .i64 S (by omega) (by omega) W
  have Hh := Lib.hid h
  have HT := Lib.hid hTe
  clear h hTe
  go_enter Tryz.func8, Tryz.ntmps8
  go_wp2_with fail
  refine (mayBe_yes _ _ _ _ Hh.out).mono ?_
  rintro e1 w1 ⟨rfl, rfl⟩
  go_wp2_with fail
  go_region
  · go_wp2_with fail
    clear hmk1 hmk2 hmul
    refine (fill_any (w.heap.size + 1 + 1) 0 T T (List.replicate T 0) _ ?hb (by simp) (by omega)).mono ?_
    case hb =>
      rw [← made_bytes]
      exact (((Blk.new' (by simp)).alloc _).alloc _).drew
    rintro e1 w2 ⟨rfl, hb2, ho2⟩
    go_wp2
    go_ret2
    refine new_end (p := w.heap.size + 1 + 1 + 1 + 1) (er := w.heap.size + 1 + 1 + 1) Hh.out HT.out ?_ (by omega) (by omega) (by omega) (by omega) (by omega) ?_ ?_ hb2 ho2
    · exact (((((((Below.refl _ _).alloc (Nat.le_refl _) _).alloc (by simp) _).alloc (by simp; omega) _).alloc (by simp; omega) _).alloc (by simp; omega) _).drew)
    · exact (Blk.new' (by simp)).drew
    · exact ((Blk.new' (by simp)).alloc _).drew
  · go_wp2_with fail
    clear hmk1 hmk2 hmul
    refine (fill_any (w.heap.size + 1 + 1 + 1) 0 T T (List.replicate T 0) _ ?hb (by simp) (by omega)).mono ?_
    case hb =>
      rw [← made_bytes]
      exact ((Blk.new' (by simp)).alloc _).drew
    rintro e1 w2 ⟨rfl, hb2, ho2⟩
    go_wp2
    go_ret2
    refine new_end (p := w.heap.size + 1 + 1 + 1 + 1) (er := w.heap.size + 1 + 1) Hh.out HT.out ?_ (by omega) (by omega) (by omega) (by omega) (by omega) ?_ ?_ hb2 ho2
    · exact (((((((Below.refl _ _).alloc (Nat.le_refl _) _).alloc (by simp) _).alloc (by simp; omega) _).alloc (by simp; omega) _).alloc (by simp; omega) _).drew)
    · exact (Blk.new' (by simp)).drew
    · exact (((Blk.new' (by simp)).alloc _).alloc _).drew

end Go.Proofs.YtnhfmcijadficaaGreatDoor
