/- The walks over mayBe and New. -/
import Derived.Test.YtdhnbeimkeoefaaDoorW4
namespace Go.Proofs.YtdhnbeimkeoefaaDoor
open Go.RowKit

theorem within_yes (a b c : Int) (w : World) (h : b ≤ a ∧ a ≤ c) :
    Calls Tryd.prog 45 #[.int .i64 a, .int .i64 b, .int .i64 c] w fun e w' => e = .returned (.bool true) ∧ w = w' :=
  (within_any a b c w).mono fun e w' ⟨he, hw⟩ => ⟨by rw [he]; simp [h.1, h.2], hw⟩
theorem within_no (a b c : Int) (w : World) (h : a < b ∨ c < a) :
    Calls Tryd.prog 45 #[.int .i64 a, .int .i64 b, .int .i64 c] w fun e w' => e = .returned (.bool false) ∧ w = w' :=
  (within_any a b c w).mono fun e w' ⟨he, hw⟩ => ⟨by rw [he]; congr 2; simp; omega, hw⟩

/-- A geometry that may be. -/
structure GeoOk (S Z L : Int) : Prop where
  s1 : 1 ≤ S
  s2 : S ≤ 64
  z1 : 64 ≤ Z
  z2 : Z ≤ 65536
  l1 : 1 ≤ L
  l2 : L ≤ 1048576

set_option maxHeartbeats 1000000 in
theorem mayBe_yes (S Z L : Int) (w : World) (h : GeoOk S Z L) :
    Calls Tryd.prog 42 #[.agg #[.int .i64 S, .int .i64 Z, .int .i64 L]] w fun e w' => e = .returned (.bool true) ∧ w' = w.alloc (.cells #[.int .i64 S, .int .i64 Z, .int .i64 L] 36) := by
  go_enter Tryd.func42, Tryd.ntmps42
  go_wp2_with fail
  refine (within_yes _ _ _ _ ⟨h.s1, h.s2⟩).mono ?_
  rintro e1 w1 ⟨rfl, rfl⟩
  go_wp2_with fail
  refine (within_yes _ _ _ _ ⟨h.z1, h.z2⟩).mono ?_
  rintro e1 w1 ⟨rfl, rfl⟩
  go_wp2_with fail
  refine (within_yes _ _ _ _ ⟨h.l1, h.l2⟩).mono ?_
  rintro e1 w1 ⟨rfl, rfl⟩
  go_wp2
  go_ret
  exact ⟨rfl, rfl⟩

set_option maxHeartbeats 1000000 in
theorem mayBe_no (S Z L : Int) (w : World) (h : ¬ GeoOk S Z L) :
    Calls Tryd.prog 42 #[.agg #[.int .i64 S, .int .i64 Z, .int .i64 L]] w fun e w' => e = .returned (.bool false) ∧ w' = w.alloc (.cells #[.int .i64 S, .int .i64 Z, .int .i64 L] 36) := by
  have Hh := Lib.hid h
  clear h
  by_cases hS : 1 ≤ S ∧ S ≤ 64
  · by_cases hZ : 64 ≤ Z ∧ Z ≤ 65536
    · have hL : L < 1 ∨ 1048576 < L := by
        rcases Int.lt_or_le L 1 with h | h
        · exact Or.inl h
        · refine Or.inr (Int.not_le.1 fun h2 => Hh.out ⟨hS.1, hS.2, hZ.1, hZ.2, h, h2⟩)
      go_enter Tryd.func42, Tryd.ntmps42
      go_wp2_with fail
      refine (within_yes _ _ _ _ hS).mono ?_
      rintro e1 w1 ⟨rfl, rfl⟩
      go_wp2_with fail
      refine (within_yes _ _ _ _ hZ).mono ?_
      rintro e1 w1 ⟨rfl, rfl⟩
      go_wp2_with fail
      refine (within_no _ _ _ _ hL).mono ?_
      rintro e1 w1 ⟨rfl, rfl⟩
      go_wp2
      go_ret
      exact ⟨rfl, rfl⟩
    · go_enter Tryd.func42, Tryd.ntmps42
      go_wp2_with fail
      refine (within_yes _ _ _ _ hS).mono ?_
      rintro e1 w1 ⟨rfl, rfl⟩
      go_wp2_with fail
      refine (within_no _ _ _ _ (by omega)).mono ?_
      rintro e1 w1 ⟨rfl, rfl⟩
      go_wp2
      go_ret
      exact ⟨rfl, rfl⟩
  · go_enter Tryd.func42, Tryd.ntmps42
    go_wp2_with fail
    refine (within_no _ _ _ _ (by omega)).mono ?_
    rintro e1 w1 ⟨rfl, rfl⟩
    go_wp2
    go_ret
    exact ⟨rfl, rfl⟩

set_option maxHeartbeats 1000000 in
theorem new_no (S Z L : Int) (w : World) (h : ¬ GeoOk S Z L) :
    Calls Tryd.prog 25 #[.agg #[.int .i64 S, .int .i64 Z, .int .i64 L]] w fun e w' => e = .returned (.tuple #[.pointer none, .int .i64 1]) ∧ Below w.heap.size w w' := by
  have Hh := Lib.hid h
  clear h
  go_enter Tryd.func25, Tryd.ntmps25
  go_wp2_with fail
  refine (mayBe_no _ _ _ _ Hh.out).mono ?_
  rintro e1 w1 ⟨rfl, rfl⟩
  go_wp2
  go_ret2
  exact ⟨rfl, ((Below.refl _ _).alloc (Nat.le_refl _) _).alloc (by simp) _⟩

/-- A new flash. -/
def Fl.fresh (S Z L : Nat) : Fl := { S := S, Z := Z, L := L, bs := List.replicate (S * Z) 255, er := List.replicate S 0, up := true, fuse := -1, keep := 0, mask := 0 }

/-- What New gives. -/
def NewOk (w w' : World) (S Z L : Nat) (e : Ending) : Prop :=
  ∃ p c er, e = .returned (.tuple #[.pointer (some ⟨p, 0, none⟩), .int .i64 0]) ∧ FlashAt w' p c er (Fl.fresh S Z L) ∧ Below w.heap.size w w' ∧ w.heap.size ≤ p ∧ w.heap.size ≤ c ∧ w.heap.size ≤ er

theorem Tryd.infoInt : (Tryd.prog.info? 3).map (fun i => (i.zero, i.size, i.bytes)) = some (some (.int .i64 0), 1, 8) := by kernel_rfl

theorem made_ints (n : Nat) : madeCells #[.int .i64 0] n = ((List.replicate n 0).map fun (n : Nat) => Value.int .i64 (n : Int)).toArray := by
  apply Array.ext'
  rw [toList_madeCells_one]
  simp
theorem filled_all (n : Nat) : (List.replicate n (0 : UInt8)).mapIdx (fillF 0 n) = List.replicate n 255 := by
  apply List.ext_getElem?
  intro j
  rw [List.getElem?_mapIdx, List.getElem?_replicate, List.getElem?_replicate]
  by_cases h : j < n
  · simp [h, fillF]
  · simp [h]

theorem Blk.new' {w : World} {g : Nat} {t : TypeId} {cs : Array Value} (h : g = w.heap.size) : Blk (w.alloc (.cells cs t)) g t cs := by rw [h]; exact Blk.new w t cs

theorem fresh_ok {S Z L : Nat} (h : GeoOk S Z L) : (Fl.fresh S Z L).Ok := by
  obtain ⟨a, b, c, d, e, f⟩ := h
  refine ⟨?_, ?_, ?_, ?_, ?_, ?_, ?_, ?_, ?_, ?_, ?_, ?_, ?_⟩ <;> simp only [Fl.fresh] <;> first | omega | (simp; done) | skip
  intro i n hi
  rw [List.getElem?_replicate] at hi
  split at hi
  · cases hi; omega
  · cases hi

theorem new_end {w W w2 : World} {p c er S Z L T : Nat} (h : GeoOk S Z L) (hT : T = S * Z) (hb : Below w.heap.size w W) (hp : w.heap.size ≤ p) (hc : w.heap.size ≤ c) (he : w.heap.size ≤ er) (hpc : p ≠ c) (hec : er ≠ c)
    (hd : Blk W p 67 #[.int .i64 (S : Int), .int .i64 (Z : Int), .int .i64 (L : Int), .slice (some ⟨c, 0, none⟩) T T, .slice (some ⟨er, 0, none⟩) S S, .bool true, .int .i64 (-1), .int .i64 0, .int .u8 0])
    (hr : Blk W er 3 (madeCells #[.int .i64 0] S)) (hcc : Blk w2 c 5 (cellsB ((List.replicate T 0).mapIdx (fillF 0 T)))) (ho : Only (· = c) W w2) :
    NewOk w w2 S Z L (.returned (.tuple #[.pointer (some ⟨p, 0, none⟩), .int .i64 0])) := by
  subst hT
  have hd2 := ho.blk hd hpc
  have hr2 := ho.blk hr hec
  rw [filled_all] at hcc
  rw [made_ints] at hr2
  refine ⟨p, c, er, rfl, ⟨fresh_ok h, hd2, hcc, hr2⟩, ?_, hp, hc, he⟩
  exact hb.trans ((ho.below hb.size (by intro k hk e; omega)))

set_option maxHeartbeats 2000000 in
theorem new_yes (S Z L : Nat) (w : World) (h : GeoOk S Z L) :
    Calls Tryd.prog 25 #[.agg #[.int .i64 (S : Int), .int .i64 (Z : Int), .int .i64 (L : Int)]] w fun e w' => NewOk w w' S Z L e := by
  have hT : S * Z ≤ 64 * 65536 := Nat.mul_le_mul (by have := h.s2; omega) (by have := h.z2; omega)
  have hs2 := h.s2
  obtain ⟨T, hTe⟩ : ∃ T, T = S * Z := ⟨_, rfl⟩
  have hmul : IntKind.i64.wrap ((S : Int) * (Z : Int)) = (T : Int) := by
    have : (S : Int) * (Z : Int) = ((S * Z : Nat) : Int) := by simp
    rw [this, ← hTe, IntKind.wrap_i64]
    omega
  rw [← hTe] at hT
  have hmk1 := fun W => run_make_row' (P := Tryd.prog) 23 5 (.int .u8 0) 1 Tryd.underlying23 Tryd.infoU8 rfl .i64 .i64 T (by omega) (by omega) W
  have hmk2 := fun W => run_make_row' (P := Tryd.prog) 65 3 (.int .i64 0) 8 Tryd.underlying65 Tryd.infoInt rfl .i64 .i64 S (by omega) (by omega) W
  have Hh := Lib.hid h
  have HT := Lib.hid hTe
  clear h hTe
  go_enter Tryd.func25, Tryd.ntmps25
  go_wp2_with fail
  refine (mayBe_yes _ _ _ _ Hh.out).mono ?_
  rintro e1 w1 ⟨rfl, rfl⟩
  go_wp2_with fail
  go_region
  · go_wp2_with fail
    clear hmk1 hmk2 hmul
    refine (fill_any (w.heap.size + 1 + 1) 0 T T (List.replicate T 0) _ ?hb (by simp) (by omega)).mono ?_
    case hb =>
      rw [← made_bytes]
      exact (((Blk.new' (by simp)).alloc _).alloc _).drew
    rintro e1 w2 ⟨rfl, hb2, ho2⟩
    go_wp2
    go_ret2
    refine new_end (p := w.heap.size + 1 + 1 + 1 + 1) (er := w.heap.size + 1 + 1 + 1) Hh.out HT.out ?_ (by omega) (by omega) (by omega) (by omega) (by omega) ?_ ?_ hb2 ho2
    · exact (((((((Below.refl _ _).alloc (Nat.le_refl _) _).alloc (by simp) _).alloc (by simp; omega) _).alloc (by simp; omega) _).alloc (by simp; omega) _).drew)
    · exact (Blk.new' (by simp)).drew
    · exact ((Blk.new' (by simp)).alloc _).drew
  · go_wp2_with fail
    clear hmk1 hmk2 hmul
    refine (fill_any (w.heap.size + 1 + 1 + 1) 0 T T (List.replicate T 0) _ ?hb (by simp) (by omega)).mono ?_
    case hb =>
      rw [← made_bytes]
      exact ((Blk.new' (by simp)).alloc _).drew
    rintro e1 w2 ⟨rfl, hb2, ho2⟩
    go_wp2
    go_ret2
    refine new_end (p := w.heap.size + 1 + 1 + 1 + 1) (er := w.heap.size + 1 + 1) Hh.out HT.out ?_ (by omega) (by omega) (by omega) (by omega) (by omega) ?_ ?_ hb2 ho2
    · exact (((((((Below.refl _ _).alloc (Nat.le_refl _) _).alloc (by simp) _).alloc (by simp; omega) _).alloc (by simp; omega) _).alloc (by simp; omega) _).drew)
    · exact (Blk.new' (by simp)).drew
    · exact (((Blk.new' (by simp)).alloc _).alloc _).drew

end Go.Proofs.YtdhnbeimkeoefaaDoor
