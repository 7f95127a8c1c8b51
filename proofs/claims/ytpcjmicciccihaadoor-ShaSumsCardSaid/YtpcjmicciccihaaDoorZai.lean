/- SHA-256: what the laws' head says; arrays of bytes compared. -/
import Derived.Test.YtpcjmicciccihaaDoorZah
import Derived.Stop.BytesEq
import Derived.Test.YtpcjmicciccihaaDoorZad
import Derived.Lib.SlBytesConst
import Derived.Test.YtpcjmicciccihaaDoorZac
import Derived.StillTailTactics
import Derived.Test.YtpcjmicciccihaaDoorZaf
import Derived.Test.YtpcjmicciccihaaDoorZab
namespace Go.Proofs.YtpcjmicciccihaaDoor
set_option maxRecDepth 100000
open Go.RowKit

theorem size8 : ∀ W : World, (sizeOf 5).run Tryd.prog W = .ok 1 W := fun W => by kernel_rfl
theorem eqI (W : World) (xs ys : List UInt8) (hx : xs.length = 32) (hy : ys.length = 32) : (Op.equalIn 10000 24 (.agg (cellsB xs)) (.agg (cellsB ys))).run Tryd.prog W = .ok (xs == ys) W :=
  run_equalIn_bytes W 9998 24 5 32 Tryd.underlying24 Tryd.underlying5 size8 xs ys hx hy
theorem unhexV_x : unhexV [120] = .tuple #[.agg (cellsB (List.replicate 32 0)), .int .i64 8] := by
  unfold unhexV unhexF
  rw [if_neg (fun h => by have := h.1; simp at this)]

def abcL : List UInt8 := [0xba, 0x78, 0x16, 0xbf, 0x8f, 0x01, 0xcf, 0xea, 0x41, 0x41, 0x40, 0xde, 0x5d, 0xae, 0x22, 0x23, 0xb0, 0x03, 0x61, 0xa3, 0x96, 0x17, 0x7a, 0x9c, 0xb4, 0x10, 0xff, 0x61, 0xf2, 0x00, 0x15, 0xad]
theorem hex_abc : ∃ r, hexF abcL = [98, 97, 55, 56, 49, 54, 98, 102] ++ r ∧ r.length = 56 := ⟨(hexF abcL).drop 8, by decide +kernel, by decide +kernel⟩

set_option maxHeartbeats 4000000 in
theorem fixed21_any (w : World) (hT : ShaT w) : Calls Tryd.prog 6 #[] w fun e w' => e = .returned (.bool true) ∧ Below w.heap.size w w' := by
  have HT := Lib.hid hT
  have hs2 := hT.size
  clear hT
  have kc := fun (w : World) (C : Array Value) (n c : Nat) => Lib.run_convert_bytes_const (P := Tryd.prog) w 22 5 C n c Tryd.underlying22 Tryd.underlying5
  have HX1 : Hid (ByteSl (w.alloc (.cells (cellsB [97, 98, 99]) 5 (3, 4))) Empty (some ⟨w.heap.size, 0, none⟩) 3 3 [97, 98, 99]) := Lib.hid (ByteSl.marked w Empty [97, 98, 99] 3 _ rfl (fun h => h) (by decide))
  have HB1 : Hid (Below w.heap.size w (w.alloc (.cells (cellsB [97, 98, 99]) 5 (3, 4)))) := Lib.hid ((Below.refl _ _).alloc (Nat.le_refl _) _)
  go_enter Tryd.func6, Tryd.ntmps6
  go_wp2_with fail
  obtain ⟨w1, hw1⟩ : ∃ W, w.alloc (.cells (cellsB [97, 98, 99]) 5 (3, 4)) = W := ⟨_, rfl⟩
  change Calls _ _ _ (w.alloc (.cells (cellsB [97, 98, 99]) 5 (3, 4))) _
  rw [hw1] at HX1 HB1 ⊢
  clear hw1
  refine (shsum_any w1 [97, 98, 99] _ 3 3 (HT.out.only (Only.of_below HB1.out : Only Empty w w1) (fun h => h) (fun h => h)) HX1.out (by omega)).mono ?_
  rintro e w2 ⟨rfl, hb2⟩
  have HB2 := Lib.hid (HB1.out.trans (hb2.mono HB1.out.size))
  clear hb2
  obtain ⟨R, hR⟩ : ∃ R, R = cellsB abcL := ⟨_, rfl⟩
  have HR := Lib.hid hR
  have HRs : Hid (R.size = 32) := Lib.hid (by rw [hR]; rfl)
  have HRz : Hid ((cellsB (List.replicate 32 0)).size = R.size) := Lib.hid (by rw [hR]; rfl)
  have HR1 : Hid (R.all (·.oneCell') = true) := Lib.hid (by rw [hR]; exact cellsB_one _)
  have r0 : R[0]? = some (.int .u8 186) := by rw [hR]; rfl
  have r1 : R[1]? = some (.int .u8 120) := by rw [hR]; rfl
  have r2 : R[2]? = some (.int .u8 22) := by rw [hR]; rfl
  have r3 : R[3]? = some (.int .u8 191) := by rw [hR]; rfl
  have r31 : R[31]? = some (.int .u8 173) := by rw [hR]; rfl
  have hA0 : ∀ cs, (w2.alloc (.cells cs 24)).heap[w2.heap.size]? = some (.cells cs 24 (0, 0)) := fun cs => Blk.new _ _ _
  rw [show sumF [97, 98, 99] = abcL from sum_abc, ← hR]
  clear hR
  go_wp2_with (with_reducible refine wpList_store_row rfl 24 (.tmp 1) (.tmp 6) rfl w2.heap.size R rfl rfl 24 _ (hA0 _) (by rw [HRs.out]; exact info24) (by rw [HRs.out]; kernel_rfl) HR1.out ?_)
  obtain ⟨w3, hw3⟩ : ∃ W, (w2.alloc (.cells (cellsB (List.replicate 32 0)) 24)).setRow w2.heap.size R = W := ⟨_, rfl⟩
  change Calls _ _ _ ((w2.alloc (.cells (cellsB (List.replicate 32 0)) 24)).setRow w2.heap.size R) _
  have hB3 : Blk w3 w2.heap.size 24 R := by rw [← hw3]; exact setRow_heap _ _ _ _ _ _ (hA0 _)
  have hW3 : Below w2.heap.size w2 w3 := by rw [← hw3]; exact below_setRow ((Below.refl _ _).alloc (Nat.le_refl _) _) (Nat.le_refl _) _
  rw [hw3]
  have HB3 := Lib.hid hB3
  have hl3 := hB3.lt
  have HW3 := Lib.hid (HB2.out.trans (hW3.mono HB2.out.size))
  clear hw3 hA0 kc hB3 hW3
  have CU := Lib.hid (unhex_any w3 [120])
  rw [unhexV_x] at CU
  refine CU.out.mono ?_
  rintro e w4 ⟨rfl, hb4⟩
  have HB4 := Lib.hid (HB3.out.of (hb4.block _ hl3))
  have HW4 := Lib.hid (HW3.out.trans (hb4.mono HW3.out.size))
  have hs24 := Nat.lt_of_lt_of_le hl3 hb4.size
  clear hb4 CU
  obtain ⟨Z, hZ⟩ : ∃ Z, Z = cellsB (List.replicate 32 0) := ⟨_, rfl⟩
  have HZ1 : Hid (Z.all (·.oneCell') = true) := Lib.hid (by rw [hZ]; exact zero_one)
  have HZs : Hid ((Tryd.prog.info? 24).map (·.size) = some Z.size) := Lib.hid (by rw [hZ]; exact zero_info)
  have HZ0 : Hid (∀ n, n = 32 → n = Z.size) := Lib.hid (fun n h => by rw [h, hZ]; rfl)
  rw [← hZ]
  have hA0 : ∀ cs, (w4.alloc (.cells cs 24)).heap[w4.heap.size]? = some (.cells cs 24 (0, 0)) := fun cs => Blk.new _ _ _
  have hK : ∀ cs, Blk ((w4.alloc (.cells cs 24)).setRow w4.heap.size Z) w2.heap.size 24 R := fun cs =>
    (HB4.out.alloc _).of (setRow_other _ _ _ _ (by omega))
  have k0 : ∀ cs, ((w4.alloc (.cells cs 24)).setRow w4.heap.size Z).cell? ⟨w2.heap.size, 0, none⟩ = some (.int .u8 186) := fun cs => ((hK cs).cell 0).trans r0
  have k1 : ∀ cs, ((w4.alloc (.cells cs 24)).setRow w4.heap.size Z).cell? ⟨w2.heap.size, 1, none⟩ = some (.int .u8 120) := fun cs => ((hK cs).cell 1).trans r1
  have k2 : ∀ cs, ((w4.alloc (.cells cs 24)).setRow w4.heap.size Z).cell? ⟨w2.heap.size, 2, none⟩ = some (.int .u8 22) := fun cs => ((hK cs).cell 2).trans r2
  have k3 : ∀ cs, ((w4.alloc (.cells cs 24)).setRow w4.heap.size Z).cell? ⟨w2.heap.size, 3, none⟩ = some (.int .u8 191) := fun cs => ((hK cs).cell 3).trans r3
  have k31 : ∀ cs, ((w4.alloc (.cells cs 24)).setRow w4.heap.size Z).cell? ⟨w2.heap.size, 31, none⟩ = some (.int .u8 173) := fun cs => ((hK cs).cell 31).trans r31
  have hKg : ∀ cs, ((w4.alloc (.cells cs 24)).setRow w4.heap.size Z).heap[w2.heap.size]? = some (.cells R 24 (0, 0)) := hK
  clear hZ r0 r1 r2 r3 r31 hK
  go_wp2_with (first | with_reducible refine wpList_store_row rfl 24 (.tmp 2) (.tmp 9) rfl w4.heap.size Z rfl rfl 24 _ (hA0 _) HZs.out (HZ0.out _ (by kernel_rfl)) HZ1.out ?_ | (refine wpList_unguard rfl ?_; with_reducible refine wpList_load_row rfl 24 (.tmp 1) rfl w2.heap.size rfl 24 R (0, 0) _ (hKg _) Tryd.underlying24 rfl (by rw [HRs.out]; exact info24) ?_))
  rw [HR.out]
  refine (hex_any _ abcL rfl).mono ?_
  rintro e w5 ⟨rfl, hb5⟩
  have HW5 : Hid (Below w.heap.size w w5) := Lib.hid ((below_setRow (HW4.out.alloc HW4.out.size _) HW4.out.size _).trans (hb5.mono (by rw [show ∀ (W : World) (g : Nat) (cs : Array Value), (W.setRow g cs).heap.size = W.heap.size from fun W g cs => by simp [World.setRow]]; have := HW4.out.size; simp; omega)))
  clear hb5
  obtain ⟨r, hr, hrl⟩ := hex_abc
  have hS8 : (strB (hexF abcL)).size = 64 := by rw [strB_sizeH, hexF_len]; rfl
  have hSe : (strB (hexF abcL)).extract 0 8 = ⟨#[98, 97, 55, 56, 49, 54, 98, 102]⟩ := by
    rw [hr]
    show ByteArray.extract ⟨_⟩ 0 8 = _
    rw [ByteArray.extract_mk]
    simp [strB]
  obtain ⟨S, hS⟩ : ∃ S, S = strB (hexF abcL) := ⟨_, rfl⟩
  rw [← hS] at hS8 hSe ⊢
  clear hS hr hrl r
  go_wp2
  go_ret
  exact ⟨rfl, HW5.out⟩
theorem unhexV_form (xs : List UInt8) : ∃ (d : List UInt8) (e : Int), d.length = 32 ∧ unhexV xs = .tuple #[.agg (cellsB d), .int .i64 e] := by
  unfold unhexV
  cases h : unhexF xs with
  | none => exact ⟨List.replicate 32 0, 8, by simp, rfl⟩
  | some l =>
    refine ⟨l, 0, ?_, rfl⟩
    unfold unhexF at h
    split at h
    · cases h; exact unB_len _ _
    · cases h
theorem unhexV_hex (l : List UInt8) (h : l.length = 32) : unhexV (hexF l) = .tuple #[.agg (cellsB l), .int .i64 0] := by
  unfold unhexV
  rw [unhex_hex l h]
/-- A value of 32 bytes laid into a new block. -/
def laid32 (w : World) (d : List UInt8) : World := (w.alloc (.cells (cellsB (List.replicate 32 0)) 24)).setRow w.heap.size (cellsB d)
theorem laid32_blk (w : World) (d : List UInt8) : Blk (laid32 w d) w.heap.size 24 (cellsB d) := setRow_heap _ _ _ _ _ _ (Blk.new _ _ _)
theorem laid32_below (w : World) (d : List UInt8) : Below w.heap.size w (laid32 w d) := below_setRow ((Below.refl _ _).alloc (Nat.le_refl _) _) (Nat.le_refl _) _
theorem laid32_info (d : List UInt8) (h : d.length = 32) : (Tryd.prog.info? 24).map (·.size) = some (cellsB d).size := by rw [cellsB_len, h]; exact info24
end Go.Proofs.YtpcjmicciccihaaDoor

/- The document's great numbers: rows of 16 bits. -/
namespace Go.Proofs.YtpcjmicciccihaaDoor
set_option maxRecDepth 100000
open Go.RowKit

/-- What a row of 16 bits tells, the lowest first. -/
def val : List Nat → Nat
  | [] => 0
  | x :: xs => x + 65536 * val xs
def small (l : List Nat) : Prop := ∀ x ∈ l, x < 65536
def rowD (v : Nat) : List Nat := [v % 65536, v / 65536 % 65536, v / 65536 / 65536 % 65536, v / 65536 / 65536 / 65536]
theorem val_rowD (v : Nat) : val (rowD v) = v := by
  simp only [val, rowD]; omega
theorem small_rowD (v : Nat) (h : v < 18446744073709551616) : small (rowD v) := by
  intro x hx
  simp only [rowD, List.mem_cons, List.not_mem_nil, or_false] at hx
  omega
theorem val_append (a b : List Nat) : val (a ++ b) = val a + 65536 ^ a.length * val b := by
  induction a with
  | nil => simp [val]
  | cons x a ih =>
    show x + 65536 * val (a ++ b) = x + 65536 * val a + 65536 ^ (a.length + 1) * val b
    rw [ih, Nat.pow_succ, Nat.mul_add, ← Nat.mul_assoc, Nat.mul_comm 65536 (65536 ^ a.length)]
    omega
theorem val_zero (n : Nat) : val (List.replicate n 0) = 0 := by
  induction n with
  | zero => rfl
  | succ n ih => rw [List.replicate_succ]; show 0 + 65536 * val (List.replicate n 0) = 0; rw [ih]
theorem val_take (l : List Nat) (k : Nat) (x : Nat) (h : l[k]? = some x) : val (l.take (k + 1)) = val (l.take k) + 65536 ^ k * x := by
  obtain ⟨h1, h2⟩ := List.getElem?_eq_some_iff.1 h
  rw [List.take_succ_eq_append_getElem h1, h2, val_append, List.length_take]
  show _ + _ * (x + 65536 * 0) = _
  rw [Nat.min_eq_left (by omega)]
  simp
theorem val_take_le (l : List Nat) (k : Nat) : val (l.take k) ≤ val l := by
  have := val_append (l.take k) (l.drop k)
  rw [List.take_append_drop] at this
  omega
theorem val_lt (l : List Nat) (h : small l) : val l < 65536 ^ l.length := by
  induction l with
  | nil => simp [val]
  | cons x l ih =>
    have h1 := ih (fun y hy => h y (List.mem_cons_of_mem _ hy))
    have h2 := h x (List.mem_cons_self ..)
    show x + 65536 * val l < 65536 ^ (l.length + 1)
    rw [Nat.pow_succ]
    omega
theorem val_get_le (l : List Nat) (k x : Nat) (h : l[k]? = some x) : 65536 ^ k * x ≤ val l := by
  have := val_take l k x h
  have := val_take_le l (k + 1)
  omega
theorem val_set (l : List Nat) (k x y : Nat) (h : l[k]? = some x) : val (l.set k y) + 65536 ^ k * x = val l + 65536 ^ k * y := by
  induction l generalizing k with
  | nil => simp at h
  | cons z l ih =>
    cases k with
    | zero =>
      simp at h
      subst h
      show y + 65536 * val l + 65536 ^ 0 * z = z + 65536 * val l + 65536 ^ 0 * y
      omega
    | succ k =>
      have := ih k (by simpa using h)
      show z + 65536 * val (l.set k y) + 65536 ^ (k + 1) * x = z + 65536 * val l + 65536 ^ (k + 1) * y
      rw [Nat.pow_succ, Nat.mul_comm (65536 ^ k) 65536, Nat.mul_assoc, Nat.mul_assoc]
      omega
/-- A carry moves on. -/
theorem val_carry (l : List Nat) (k x y : Nat) (h : l[k]? = some x) (h2 : l[k + 1]? = some y) : val ((l.set (k + 1) (y + x / 65536)).set k (x % 65536)) = val l := by
  have e1 := val_set l (k + 1) y (y + x / 65536) h2
  have e2 := val_set (l.set (k + 1) (y + x / 65536)) k x (x % 65536) (by rw [List.getElem?_set_ne (by omega)]; exact h)
  have e3 : 65536 ^ (k + 1) * (y + x / 65536) = 65536 ^ (k + 1) * y + 65536 ^ k * (65536 * (x / 65536)) := by
    rw [Nat.mul_add, Nat.pow_succ, Nat.mul_assoc (65536 ^ k) 65536 (x / 65536)]
  have e4 : 65536 ^ k * x = 65536 ^ k * (65536 * (x / 65536)) + 65536 ^ k * (x % 65536) := by
    rw [← Nat.mul_add, Nat.div_add_mod]
  omega

section
variable {α : Type} {f : α → Value} {t : TypeId} {w : World} {base g n cap : Nat} {l : List α}
theorem one_flat (f : α → Value) (l : List α) : l.flatMap (fun x => [f x]) = l.map f := by
  induction l with
  | nil => rfl
  | cons x l ih => rw [List.flatMap_cons, ih]; rfl
/-- A whole block of one-cell values, as a row of the call's own. -/
theorem got_row (h : Blk w g t (l.map f).toArray) (hb : base ≤ g) (hn : l.length = n) (hm : n ≤ maxLen) : GotR (fun x => [f x]) 1 t base w (some ⟨g, 0, none⟩) n n l := by
  subst hn
  have ho : w.ownsRow base t 1 (.slice (some ⟨g, 0, none⟩) l.length l.length) l.length (l.flatMap fun x => [f x]) := by
    rw [one_flat]
    exact ⟨by simp, Or.inr ⟨g, l.length, _, rfl, hb, h, Nat.le_refl _, hm, by simp, by show (l.map f).take (l.length * 1) = _; rw [List.take_of_length_le (by simp)]⟩⟩
  obtain ⟨A, c, e, hG⟩ := GotR.of_own (cells := fun x => [f x]) (k := 1) (fun _ => rfl) ho rfl
  cases e
  exact hG
theorem got_cell {i : Nat} {x : α} (h : GotR (fun x => [f x]) 1 t base w (some ⟨g, 0, none⟩) n cap l) (hi : l[i]? = some x) : w.cell? ⟨g, i, none⟩ = some (f x) ∧ w.frozen? ⟨g, i, none⟩ = false ∧ g < w.heap.size := by
  have hil : i < n := by have := (List.getElem?_eq_some_iff.1 hi).1; have := h.row.1; omega
  rcases h.here with hn | ⟨g', cur, he, _, hB, _⟩
  · cases hn
  · cases he
    obtain ⟨b, o, he2, _, _, hc⟩ := h.row.2.2.2 (by omega)
    cases he2
    have h1 := hc i x hi 0 (by omega)
    rw [Nat.mul_one, Nat.zero_add, Nat.add_zero] at h1
    exact ⟨h1, hB.frozen i, hB.lt⟩
theorem got_some {A : Option Addr} (h : GotR (fun x => [f x]) 1 t base w A n cap l) (h0 : 0 < n) : ∃ g, A = some ⟨g, 0, none⟩ ∧ base ≤ g := by
  rcases h.here with hn | ⟨g', cur, he, hb, _⟩
  · have := (h.isNil hn).1; omega
  · exact ⟨g', he, hb⟩
theorem row_get (i : Nat) : (l.map f).toArray[i]? = l[i]?.map f := by simp
theorem row_set (i : Nat) (x : α) : (l.map f).toArray.setIfInBounds i (f x) = ((l.set i x).map f).toArray := by
  rw [List.setIfInBounds_toArray, List.map_set]
end
def UV (x : Nat) : Value := .int .u64 (x : Int)
theorem infoU64h : (Tryd.prog.info? 38).map (fun i => (i.zero, i.size, i.bytes)) = some (some (.int .u64 0), 1, 8) := by kernel_rfl
theorem madeU (n : Nat) : madeCells #[.int .u64 0] n = ((List.replicate n 0).map UV).toArray := by
  apply Array.ext_getElem?
  intro i
  rw [row_get, List.getElem?_replicate]
  by_cases h : i < n
  · simp [madeCells, h, Nat.mod_one, UV]
  · simp [madeCells, h]
theorem run_makeU (n : Nat) (hm : n ≤ 1000000) (W : World) :
    (Instr.makeSlice 52 (.int .i64 (n : Int)) (.int .i64 (n : Int))).run Tryd.prog W = .ok (.slice (some ⟨W.heap.size, 0, none⟩) n n) (W.alloc (.cells ((List.replicate n 0).map UV).toArray 38)) := by
  obtain ⟨i0, hi, hz0, hz1, hz2⟩ := info_parts infoU64h
  have hr := run_make (P := Tryd.prog) W 52 38 i0 (.int .u64 0) Tryd.underlying52 hi hz0 .i64 .i64 n n (by omega) (by omega) (by rw [hz2]; omega) (by omega)
  simp only [Int.toNat_natCast, hz1, Nat.mul_one] at hr
  rw [← madeU]
  exact hr

/-- What a call made: a row of numbers. -/
def GotU (base : Nat) (w : World) (A : Option Addr) (n cap : Nat) (l : List Nat) : Prop := GotR (fun x => [UV x]) 1 38 base w A n cap l

set_option maxHeartbeats 1000000 in
theorem r21row_any (w : World) (v : Nat) (hv : v < 18446744073709551616) : Calls Tryd.prog 36 #[.int .u64 (v : Int)] w fun e w' => e = .returned (.slice (some ⟨w.heap.size, 0, none⟩) 4 4) ∧ Blk w' w.heap.size 38 ((rowD v).map UV).toArray ∧ Below w.heap.size w w' := by
  go_enter Tryd.func36, Tryd.ntmps36
  go_wp2
  go_ret
  refine ⟨rfl, ?_, (Below.refl _ _).alloc (Nat.le_refl _) _⟩
  have h := Blk.new w 38 ((rowD v).map UV).toArray
  have e : ((rowD v).map UV).toArray = #[.int .u64 ((v : Int) % 65536), .int .u64 ((v : Int) / 65536 % 65536), .int .u64 ((v : Int) / 65536 / 65536 % 65536), .int .u64 ((v : Int) / 65536 / 65536 / 65536)] := by
    simp [rowD, UV]
  rw [e] at h ⊢
  exact h
end Go.Proofs.YtpcjmicciccihaaDoor

/- The document's great numbers: a product. -/
namespace Go.Proofs.YtpcjmicciccihaaDoor
set_option maxRecDepth 100000
open Go.RowKit

def smallBut (m : Nat) (o : List Nat) : Prop := ∀ q x, o[q]? = some x → q ≠ m → x < 65536
theorem small_of_but {m : Nat} {o : List Nat} (h : smallBut m o) (hm : ∀ x, o[m]? = some x → x < 65536) : small o := by
  intro x hx
  obtain ⟨q, hq, he⟩ := List.mem_iff_getElem.1 hx
  have hg : o[q]? = some x := by rw [List.getElem?_eq_getElem hq, he]
  by_cases hqm : q = m
  · subst hqm; exact hm x hg
  · exact h q x hg hqm
theorem but_of_small {o : List Nat} (h : small o) (m c : Nat) : smallBut m (o.set m c) := by
  intro q x hq hne
  rw [List.getElem?_set_ne (fun e => hne e.symm)] at hq
  exact h x (List.mem_of_getElem? hq)
theorem but_next {o : List Nat} {m a b : Nat} (h : smallBut m o) (hb : b < 65536) : smallBut (m + 1) ((o.set (m + 1) a).set m b) := by
  intro q x hq hne
  by_cases hqm : q = m
  · subst hqm
    by_cases hl : q < o.length
    · rw [List.getElem?_set_self (by simpa using hl)] at hq
      cases hq; exact hb
    · rw [List.getElem?_eq_none (by simp; omega)] at hq
      cases hq
  · rw [List.getElem?_set_ne (fun e => hqm e.symm), List.getElem?_set_ne (fun e => hne e.symm)] at hq
    exact h q x hq hqm
theorem carry_room {o : List Nat} {m c N V : Nat} (h : o[m]? = some c) (hc : 65536 ≤ c) (hV : val o = V) (hb : V < 65536 ^ N) : m + 1 < N := by
  have h1 := val_get_le o m c h
  have h2 : 65536 ^ (m + 1) ≤ 65536 ^ m * c := by rw [Nat.pow_succ]; exact Nat.mul_le_mul_left _ hc
  have h3 : 65536 ^ (m + 1) < 65536 ^ N := by omega
  exact (Nat.pow_lt_pow_iff_right (by omega)).1 h3
/-- What is there behind so many of a and so many of b. -/
def part2 (la lb : List Nat) (i k x : Nat) : Nat := val (la.take i) * val lb + 65536 ^ i * (x * val (lb.take k))
theorem part2_lt (la lb : List Nat) (i k x : Nat) (ha : small la) (hb : small lb) (hx : la[i]? = some x) : part2 la lb i k x < 65536 ^ (la.length + lb.length) := by
  have h1 := val_take la i x hx
  have h2 := val_take_le la (i + 1)
  have h3 := val_take_le lb k
  have h4 := val_lt la ha
  have h5 := val_lt lb hb
  have h6 : part2 la lb i k x ≤ val la * val lb := by
    unfold part2
    have : 65536 ^ i * (x * val (lb.take k)) ≤ 65536 ^ i * x * val lb := by rw [Nat.mul_assoc]; exact Nat.mul_le_mul_left _ (Nat.mul_le_mul_left _ h3)
    have e : val (la.take i) * val lb + 65536 ^ i * x * val lb = val (la.take (i + 1)) * val lb := by rw [h1, Nat.add_mul]
    have := Nat.mul_le_mul_right (val lb) h2
    omega
  have h7 : 0 < 65536 ^ la.length := Nat.pow_pos (by omega)
  rw [Nat.pow_add]
  exact Nat.lt_of_le_of_lt h6 (Nat.mul_lt_mul'' h4 h5)
theorem part2_zero (la lb : List Nat) (i x : Nat) : part2 la lb i 0 x = val (la.take i) * val lb := by simp [part2, val]
theorem part2_all (la lb : List Nat) (i k x : Nat) (hx : la[i]? = some x) (hk : lb.length ≤ k) : part2 la lb i k x = val (la.take (i + 1)) * val lb := by
  unfold part2
  rw [List.take_of_length_le hk, val_take la i x hx, Nat.add_mul, Nat.mul_assoc]
theorem part2_next (la lb : List Nat) (i k x y : Nat) (hy : lb[k]? = some y) : part2 la lb i (k + 1) x = part2 la lb i k x + 65536 ^ (i + k) * (x * y) := by
  unfold part2
  rw [val_take lb k y hy, Nat.mul_add, Nat.mul_add, Nat.pow_add, ← Nat.add_assoc]
  congr 1
  rw [Nat.mul_assoc, Nat.mul_left_comm x]

set_option maxHeartbeats 8000000 in
theorem times_any (w : World) (ga gb n1 n2 : Nat) (la lb : List Nat) (hA : Blk w ga 38 (la.map UV).toArray) (hB : Blk w gb 38 (lb.map UV).toArray) (h1 : la.length = n1) (h2 : lb.length = n2) (hn1 : n1 ≤ 20) (hn2 : n2 ≤ 20) (sa : small la) (sb : small lb) :
    Calls Tryd.prog 35 #[.slice (some ⟨ga, 0, none⟩) n1 n1, .slice (some ⟨gb, 0, none⟩) n2 n2] w fun e w' => e = .returned (.slice (some ⟨w.heap.size, 0, none⟩) (n1 + n2 + 1) (n1 + n2 + 1)) ∧ (∃ r, r.length = n1 + n2 + 1 ∧ small r ∧ val r = val la * val lb ∧ Blk w' w.heap.size 38 (r.map UV).toArray) ∧ Below w.heap.size w w' := by
  have HA := Lib.hid hA
  have HB := Lib.hid hB
  have Hsa := Lib.hid sa
  have Hsb := Lib.hid sb
  have H1 := Lib.hid h1
  have H2 := Lib.hid h2
  have hla := hA.lt
  have hlb := hB.lt
  obtain ⟨n, hn⟩ : ∃ n, n = n1 + n2 + 1 := ⟨_, rfl⟩
  have hmk : ∀ W : World, (Instr.makeSlice 52 (.int .i64 ((n1 : Int) + (n2 : Int) + 1)) (.int .i64 ((n1 : Int) + (n2 : Int) + 1))).run Tryd.prog W = .ok (.slice (some ⟨W.heap.size, 0, none⟩) n n) (W.alloc (.cells ((List.replicate n 0).map UV).toArray 38)) := fun W => by
    have h := run_makeU n (by omega) W
    rw [show ((n : Nat) : Int) = (n1 : Int) + (n2 : Int) + 1 by omega] at h
    exact h
  obtain ⟨Z, hZ⟩ : ∃ Z, Z = ((List.replicate n 0).map UV).toArray := ⟨_, rfl⟩
  rw [← hZ] at hmk
  have HZ := Lib.hid hZ
  have HN := Lib.hid hn
  rw [← hn]
  clear hA hB sa sb h1 h2 hZ
  have hn50 : n ≤ 50 := by omega
  clear hn
  go_enter Tryd.func35, Tryd.ntmps35
  go_wp2_with fail
  clear hmk
  go_loopw [20] (fun i wr => ∃ (i0 : Nat) (o : List Nat), i0 ≤ n1 ∧ i = .int .i64 (i0 : Int) ∧ Hid (o.length = n ∧ small o ∧ val o = val (la.take i0) * val lb) ∧ Hid (Blk wr w.heap.size 38 (o.map UV).toArray) ∧ Hid (Below w.heap.size w wr)) (fun i _ => n1 - (intOf i).toNat)
  case atStart =>
    refine ⟨0, List.replicate n 0, by omega, rfl, Lib.hid ⟨by simp, fun x hx => ?_, ?_⟩, Lib.hid ?_, Lib.hid ((Below.refl _ _).alloc (Nat.le_refl _) _)⟩
    · rw [(List.mem_replicate.1 hx).2]; omega
    · rw [val_zero]; simp [val]
    · rw [← HZ.out]; exact Blk.new _ _ _
  case round =>
    obtain ⟨i0, o, hi, rfl, HO, Hb, HW⟩ := hrel
    by_cases hlt : i0 < n1
    · obtain ⟨x, hx⟩ : ∃ x, la[i0]? = some x := ⟨_, List.getElem?_eq_getElem (by rw [H1.out]; exact hlt)⟩
      have hxs : x < 65536 := Hsa.out x (List.mem_of_getElem? hx)
      have hcx : wr.cell? ⟨ga, i0, none⟩ = some (.int .u64 (x : Int)) := ((HA.out.of (HW.out.block _ hla)).cell i0).trans (by rw [row_get, hx]; rfl)
      have HX := Lib.hid hx
      have HO2 : Hid (o.length = n ∧ small o ∧ val o = part2 la lb i0 0 x) := Lib.hid ⟨HO.out.1, HO.out.2.1, by rw [part2_zero]; exact HO.out.2.2⟩
      clear hx HO
      go_wp2_with fail
      clear hcx
      go_loopw [27] (fun i wr => ∃ (k : Nat) (o : List Nat), k ≤ n2 ∧ i = .int .i64 (k : Int) ∧ Hid (o.length = n ∧ small o ∧ val o = part2 la lb i0 k x) ∧ Hid (Blk wr w.heap.size 38 (o.map UV).toArray) ∧ Hid (Below w.heap.size w wr)) (fun i _ => n2 - (intOf i).toNat)
      case atStart => exact ⟨0, o, by omega, rfl, HO2, Hb, HW⟩
      case round =>
        clear HO2 Hb HW
        obtain ⟨k, o, hk, rfl, HO, Hb, HW⟩ := hrel
        by_cases hlk : k < n2
        · obtain ⟨y, hy⟩ : ∃ y, lb[k]? = some y := ⟨_, List.getElem?_eq_getElem (by rw [H2.out]; exact hlk)⟩
          have hys : y < 65536 := Hsb.out y (List.mem_of_getElem? hy)
          have hcy : wr.cell? ⟨gb, k, none⟩ = some (.int .u64 (y : Int)) := ((HB.out.of (HW.out.block _ hlb)).cell k).trans (by rw [row_get, hy]; rfl)
          obtain ⟨c, hc⟩ : ∃ c, o[i0 + k]? = some c := ⟨_, List.getElem?_eq_getElem (by rw [HO.out.1, HN.out]; omega)⟩
          have hcs : c < 65536 := HO.out.2.1 c (List.mem_of_getElem? hc)
          have hcc : wr.cell? ⟨w.heap.size, i0 + k, none⟩ = some (.int .u64 (c : Int)) := (Hb.out.cell (i0 + k)).trans (by rw [row_get, hc]; rfl)
          have hff := Hb.out.frozen (i0 + k)
          have hxy : x * y ≤ 4294836225 := by
            have := Nat.mul_le_mul (show x ≤ 65535 by omega) (show y ≤ 65535 by omega)
            omega
          obtain ⟨P, hP⟩ : ∃ P, P = x * y := ⟨_, rfl⟩
          have hPI : (x : Int) * (y : Int) = (P : Int) := by rw [hP]; simp
          have hP1 : P ≤ 4294836225 := by omega
          have HO2 : Hid ((o.set (i0 + k) (c + P)).length = n ∧ smallBut (i0 + k) (o.set (i0 + k) (c + P)) ∧ val (o.set (i0 + k) (c + P)) = part2 la lb i0 (k + 1) x) := Lib.hid (by
            refine ⟨by rw [List.length_set]; exact HO.out.1, but_of_small HO.out.2.1 _ _, ?_⟩
            have e := val_set o (i0 + k) c (c + P) hc
            rw [part2_next la lb i0 k x y hy, ← hP, ← HO.out.2.2]
            rw [Nat.mul_add] at e
            omega)
          have hcI : (i0 : Int) + (k : Int) < (n : Int) := by have := HN.out; omega
          have HG : Hid ((o.set (i0 + k) (c + P))[i0 + k]? = some (c + P)) := Lib.hid (List.getElem?_set_self (List.getElem?_eq_some_iff.1 hc).1)
          clear hy hc hP hxy
          go_wp2_with fail
          go_loopw [10] (fun m ws => ∃ (m0 c : Nat) (o : List Nat), m0 < n ∧ m = .int .i64 (m0 : Int) ∧ c ≤ 17179869184 ∧ Hid (o[m0]? = some c) ∧ Hid (o.length = n ∧ smallBut m0 o ∧ val o = part2 la lb i0 (k + 1) x) ∧ Hid (Blk ws w.heap.size 38 (o.map UV).toArray) ∧ Hid (Below w.heap.size w ws)) (fun m _ => n - (intOf m).toNat)
          case atStart =>
            refine ⟨i0 + k, c + P, o.set (i0 + k) (c + P), by omega, by simp, by omega, HG, HO2, Lib.hid ?_, Lib.hid (HW.out.setCell (by simp) _)⟩
            have h := Hb.out.set_ (i0 + k) (UV (c + P))
            rw [row_set] at h
            simpa [UV] using h
          case round =>
            clear HO2 Hb HW HG
            obtain ⟨m0, d, o3, hm0, rfl, hd, HG, HO, Hb, HW⟩ := hrel
            have hcd : wr.cell? ⟨w.heap.size, m0, none⟩ = some (.int .u64 (d : Int)) := (Hb.out.cell m0).trans (by rw [row_get, HG.out]; rfl)
            have hmI : (m0 : Int) < (n : Int) := by omega
            by_cases hbig : 65536 ≤ d
            · have hroom := carry_room HG.out hbig HO.out.2.2 (by
                have h := part2_lt la lb i0 (k + 1) x Hsa.out Hsb.out HX.out
                rw [H1.out, H2.out] at h
                exact h)
              have hm1 : m0 + 1 < n := by have := HN.out; omega
              have hm1I : (m0 : Int) + 1 < (n : Int) := by omega
              obtain ⟨y2, hy2⟩ : ∃ y2, o3[m0 + 1]? = some y2 := ⟨_, List.getElem?_eq_getElem (by rw [HO.out.1]; exact hm1)⟩
              have hy2s : y2 < 65536 := HO.out.2.1 (m0 + 1) y2 hy2 (by omega)
              have hce : wr.cell? ⟨w.heap.size, m0 + 1, none⟩ = some (.int .u64 (y2 : Int)) := (Hb.out.cell (m0 + 1)).trans (by rw [row_get, hy2]; rfl)
              have hf1 := Hb.out.frozen (m0 + 1)
              have hf0 := Hb.out.frozen m0
              have HO4 : Hid (((o3.set (m0 + 1) (y2 + d / 65536)).set m0 (d % 65536)).length = n ∧ smallBut (m0 + 1) ((o3.set (m0 + 1) (y2 + d / 65536)).set m0 (d % 65536)) ∧ val ((o3.set (m0 + 1) (y2 + d / 65536)).set m0 (d % 65536)) = part2 la lb i0 (k + 1) x) := Lib.hid ⟨by simp [HO.out.1], but_next HO.out.2.1 (Nat.mod_lt _ (by omega)), by rw [val_carry o3 m0 d y2 HG.out hy2]; exact HO.out.2.2⟩
              have HG4 : Hid (((o3.set (m0 + 1) (y2 + d / 65536)).set m0 (d % 65536))[m0 + 1]? = some (y2 + d / 65536)) := Lib.hid (by
                rw [List.getElem?_set_ne (by omega)]
                exact List.getElem?_set_self (List.getElem?_eq_some_iff.1 hy2).1)
              have hbigI : (65536 : Int) ≤ (d : Int) := by omega
              obtain ⟨m1, hm1e⟩ : ∃ m1, m1 = m0 + 1 := ⟨_, rfl⟩
              obtain ⟨q, hq⟩ : ∃ q, q = d / 65536 := ⟨_, rfl⟩
              obtain ⟨r, hr⟩ : ∃ r, r = d % 65536 := ⟨_, rfl⟩
              obtain ⟨Y, hY⟩ : ∃ Y, Y = y2 + q := ⟨_, rfl⟩
              rw [← hq, ← hr, ← hY, ← hm1e] at HO4 HG4
              rw [← hm1e] at hce hf1
              have hmm : m0 < m1 := by omega
              have hm1n : m1 < n := by omega
              have hm1J : (m1 : Int) < (n : Int) := by omega
              have w1 : IntKind.i64.wrap ((m0 : Int) + 1) = (m1 : Int) := by rw [IntKind.wrap_i64]; omega
              have w0 : IntKind.i64.wrap (m1 : Int) = (m1 : Int) := by rw [IntKind.wrap_i64]; omega
              have w1' : (m0 : Int) + 1 = (m1 : Int) := by omega
              have q1 : (d : Int) / 65536 = (q : Int) := by omega
              have q2 : (d : Int).tdiv 65536 = (q : Int) := by rw [Int.tdiv_eq_ediv_of_nonneg (by omega)]; omega
              have q3 : IntKind.u64.wrap (q : Int) = (q : Int) := by rw [IntKind.wrap_u64]; omega
              have q4 : IntKind.u64.wrap ((y2 : Int) + (q : Int)) = (Y : Int) := by rw [IntKind.wrap_u64]; omega
              have r1 : (d : Int) % 65536 = (r : Int) := by omega
              have r2 : (d : Int).tmod 65536 = (r : Int) := by rw [Int.tmod_eq_emod_of_nonneg (by omega)]; omega
              have hYb : Y ≤ 17179869184 := by omega
              have hne : ¬ (m0 = m1) := by omega
              have HBn : Hid (Blk ((wr.setCell ⟨w.heap.size, m1, none⟩ (UV Y)).setCell ⟨w.heap.size, m0, none⟩ (UV r)) w.heap.size 38 (((o3.set m1 Y).set m0 r).map UV).toArray) := Lib.hid (by
                have h := (Hb.out.set_ m1 (UV Y)).set_ m0 (UV r)
                rw [row_set, row_set] at h
                exact h)
              have HWn : Hid (Below w.heap.size w ((wr.setCell ⟨w.heap.size, m1, none⟩ (UV Y)).setCell ⟨w.heap.size, m0, none⟩ (UV r))) := Lib.hid ((HW.out.setCell (by simp) _).setCell (by simp) _)
              clear hroom hy2 hm1e hq hr hY hm1 hm1I
              go_wp2
              go_still_tail 15, (by kernel_rfl)
              go_wp2
              exact ⟨⟨m1, Y, _, hm1n, rfl, hYb, HG4, HO4, Lib.hid HBn.out.drew, Lib.hid HWn.out.drew⟩, by simp only [intOf, Int.toNat_natCast]; omega⟩
            · have hbigI : ¬ ((65536 : Int) ≤ (d : Int)) := by omega
              have HO5 : Hid (o3.length = n ∧ small o3 ∧ val o3 = part2 la lb i0 (k + 1) x) := Lib.hid ⟨HO.out.1, small_of_but HO.out.2.1 (fun z hz => by
                have h := HG.out
                rw [hz] at h
                cases h
                omega), HO.out.2.2⟩
              go_wp2
              go_roundw
              case rel => exact ⟨k + 1, o3, by omega, by go_num, HO5, Hb, HW⟩
              case measure => simp [intOf]; omega
        · have HO5 : Hid (o.length = n ∧ small o ∧ val o = val (la.take (i0 + 1)) * val lb) := Lib.hid ⟨HO.out.1, HO.out.2.1, by rw [HO.out.2.2, part2_all la lb i0 k x HX.out (by rw [H2.out]; omega)]⟩
          go_wp2
          go_roundw
          case rel => exact ⟨i0 + 1, o, by omega, by go_num, HO5, Hb, HW⟩
          case measure => simp [intOf]; omega
    · go_wp2
      go_ret
      refine ⟨rfl, ⟨o, by rw [HO.out.1], HO.out.2.1, ?_, Hb.out⟩, HW.out⟩
      rw [HO.out.2.2, List.take_of_length_le (by rw [H1.out]; omega)]
end Go.Proofs.YtpcjmicciccihaaDoor

/- The document's great numbers: is y^3 greater than p times 2^96? -/
namespace Go.Proofs.YtpcjmicciccihaaDoor
set_option maxRecDepth 100000
open Go.RowKit

theorem rowSl_blk {w : World} {ga m : Nat} {l : List Nat} (h : Blk w ga 38 (l.map UV).toArray) (hm : l.length = m) (hb : m ≤ maxLen) : RowSl (fun x => [UV x]) 1 w Empty (some ⟨ga, 0, none⟩) m m l :=
  RowSl.of_blk (fun _ => rfl) h hm (Nat.le_refl _) hb (fun j _ => by rw [one_flat, List.getElem?_toArray]) (fun h => h)
/-- append of a row of numbers. -/
theorem appU {base base0 : Nat} {w0 w : World} {B : Option Addr} {m0 c0 : Nat} {zs : List Nat} (hown : GotU base w B m0 c0 zs) {ga m : Nat} {l : List Nat} (h : Blk w ga 38 (l.map UV).toArray) (hl : l.length = m) (hm : m0 + m ≤ 1000000) (hbase : base ≤ w.heap.size) (hb0 : base0 ≤ base) (hbel : Below base0 w0 w) :
    ∃ A' c' w', (Builtin.append_ #[52, 52] 52 #[.slice B m0 c0, .slice (some ⟨ga, 0, none⟩) m m]).run Tryd.prog w = .ok (.slice A' (m0 + m) c') w' ∧ GotU base w' A' (m0 + m) c' (zs ++ l) ∧ Below base0 w0 w' := by
  obtain ⟨A', c', w', h1, h2, h3, h4⟩ := run_append_rows (cells := fun x => [UV x]) (k := 1) (fun _ => rfl) (fun _ v hv => by rw [List.mem_singleton.1 hv]; rfl) (by omega) 52 38 (.int .u64 0) 8 Tryd.underlying52 infoU64h rfl (by omega) 52 base B m0 c0 zs hown ⟨ga, 0, none⟩ m m l (rowSl_blk h hl (by unfold maxLen; omega)) (by omega) hbase
  exact ⟨A', c', w', h1, h2, below_gotR hbel (Nat.le_trans hb0 hbase) h3 h4 hb0⟩

theorem wpList_append_eqU {ops : Array Oper} {rest : List Oper} {o : Oper} {a : Act} {w w' : World} {Q : Exit → Act → World → Prop} {ts : TypeId} (hgd : o.guard = none) (s x : Operand)
    (hq : o.op = .call { callee := .builtin .append, args := #[s, x], argTypes := #[ts, ts] }) (hty : o.type = ts) {a0 a1 v : Value} (hs : a.eval s = a0) (hx : a.eval x = a1) (hr : (Builtin.append_ #[ts, ts] ts #[a0, a1]).run Tryd.prog w = .ok v w') (h : wpList Tryd.prog ops Q rest (a.put o.dst v) w') : wpList Tryd.prog ops Q (o :: rest) a w := by
  refine wpList_plain hgd fun K hK => ?_
  unfold Oper.wp execOp
  simp only [hq, hty, resolve, invoke, builtin, Sem.run_bind, Sem.run_pure, Result.andThen_ok, List.map_toArray, List.map_cons, List.map_nil, hs, hx, hr]
  exact hK _ _ h
/-- The highest place at which two rows differ tells which is greater. -/
theorem val_split (a : List Nat) (i x : Nat) (h : a[i]? = some x) : val a = val (a.take i) + 65536 ^ i * (x + 65536 * val (a.drop (i + 1))) := by
  obtain ⟨h1, h2⟩ := List.getElem?_eq_some_iff.1 h
  have e := val_append (a.take i) (a.drop i)
  rw [List.take_append_drop, List.length_take, Nat.min_eq_left (by omega), List.drop_eq_getElem_cons h1, h2] at e
  exact e
theorem val_gt (a b : List Nat) (i x y : Nat) (sa : small a) (sb : small b) (ha : a[i]? = some x) (hb : b[i]? = some y) (hd : a.drop (i + 1) = b.drop (i + 1)) (hne : x ≠ y) : decide (y < x) = decide (val b < val a) := by
  have e1 := val_split a i x ha
  have e2 := val_split b i y hb
  rw [hd] at e1
  have l1 := (List.getElem?_eq_some_iff.1 ha).1
  have l2 := (List.getElem?_eq_some_iff.1 hb).1
  have t1 := val_lt (a.take i) (fun z hz => sa z (List.mem_of_mem_take hz))
  have t2 := val_lt (b.take i) (fun z hz => sb z (List.mem_of_mem_take hz))
  rw [List.length_take, Nat.min_eq_left (by omega)] at t1 t2
  obtain ⟨P, hP⟩ : ∃ P, P = 65536 ^ i := ⟨_, rfl⟩
  obtain ⟨D, hD⟩ : ∃ D, D = 65536 * val (b.drop (i + 1)) := ⟨_, rfl⟩
  rw [← hP, ← hD] at e1 e2
  rw [← hP] at t1 t2
  apply decide_eq_decide.2
  constructor
  · intro h
    have h3 : P * (y + D + 1) ≤ P * (x + D) := Nat.mul_le_mul_left _ (by omega)
    rw [Nat.mul_add P (y + D) 1] at h3
    omega
  · intro h
    rcases Nat.lt_or_ge y x with h3 | h3
    · exact h3
    · have h4 : P * (x + D + 1) ≤ P * (y + D) := Nat.mul_le_mul_left _ (by omega)
      rw [Nat.mul_add P (x + D) 1] at h4
      omega

theorem r21row_ex (w : World) (v : Nat) (hv : v < 18446744073709551616) : Calls Tryd.prog 36 #[.int .u64 (v : Int)] w fun e w' => ∃ g, e = .returned (.slice (some ⟨g, 0, none⟩) 4 4) ∧ Blk w' g 38 ((rowD v).map UV).toArray ∧ Below w.heap.size w w' :=
  (r21row_any w v hv).mono fun e w' h => ⟨_, h⟩
set_option maxHeartbeats 8000000 in
theorem greater_any (w : World) (y p : Nat) (hy : y < 18446744073709551616) (hp : p < 18446744073709551616) :
    Calls Tryd.prog 29 #[.int .u64 (y : Int), .int .u64 (p : Int)] w fun e w' => e = .returned (.bool (decide (p * 79228162514264337593543950336 < y * y * y))) ∧ Below w.heap.size w w' := by
  go_enter Tryd.func29, Tryd.ntmps29
  go_wp2_with fail
  refine (r21row_any w y hy).mono ?_
  rintro e w1 ⟨rfl, hb1, hw1⟩
  have HB1 := Lib.hid hb1
  have HW1 := Lib.hid hw1
  have hs1 := hb1.lt
  clear hb1 hw1
  go_wp2_with fail
  refine (r21row_any w1 y hy).mono ?_
  rintro e w2 ⟨rfl, hb2, hw2⟩
  have HB2 := Lib.hid hb2
  have HW2 := Lib.hid (HW1.out.trans (hw2.mono HW1.out.size))
  have HB12 := Lib.hid (HB1.out.of (hw2.block _ hs1))
  have hs2 := hb2.lt
  clear hb2 hw2
  go_wp2_with fail
  refine (times_any w2 w.heap.size w1.heap.size 4 4 (rowD y) (rowD y) HB12.out HB2.out rfl rfl (by omega) (by omega) (small_rowD y hy) (small_rowD y hy)).mono ?_
  rintro e w3 ⟨rfl, ⟨r3, hl3, sr3, hv3, hb3⟩, hw3⟩
  rw [val_rowD] at hv3
  have HB3 := Lib.hid hb3
  have HW3 := Lib.hid (HW2.out.trans (hw3.mono HW2.out.size))
  have HR3 := Lib.hid (And.intro hl3 (And.intro sr3 hv3))
  have hs3 := hb3.lt
  clear hb3 hw3 hl3 sr3 hv3
  go_wp2_with fail
  refine (r21row_any w3 y hy).mono ?_
  rintro e w4 ⟨rfl, hb4, hw4⟩
  have HB4 := Lib.hid hb4
  have HB34 := Lib.hid (HB3.out.of (hw4.block _ hs3))
  have HW4 := Lib.hid (HW3.out.trans (hw4.mono HW3.out.size))
  clear hb4 hw4
  go_wp2_with fail
  refine (times_any w4 w2.heap.size w3.heap.size (4 + 4 + 1) 4 r3 (rowD y) HB34.out HB4.out HR3.out.1 rfl (by omega) (by omega) HR3.out.2.1 (small_rowD y hy)).mono ?_
  rintro e w5 ⟨rfl, ⟨r5, hl5, sr5, hv5, hb5⟩, hw5⟩
  rw [val_rowD, HR3.out.2.2] at hv5
  have HB5 := Lib.hid hb5
  have HW5 := Lib.hid (HW4.out.trans (hw5.mono HW4.out.size))
  have HR5 := Lib.hid (And.intro hl5 (And.intro sr5 hv5))
  have hs5 := hb5.lt
  clear hb5 hw5 hl5 sr5 hv5
  have hmk : ∀ W : World, (Instr.makeSlice 52 (.int .i64 6) (.int .i64 6)).run Tryd.prog W = .ok (.slice (some ⟨W.heap.size, 0, none⟩) 6 6) (W.alloc (.cells ((List.replicate 6 0).map UV).toArray 38)) := fun W => run_makeU 6 (by omega) W
  obtain ⟨Z6, hZ6⟩ : ∃ Z6, Z6 = List.replicate 6 0 := ⟨_, rfl⟩
  rw [← hZ6] at hmk
  have hZl : Z6.length = 6 := by rw [hZ6]; rfl
  have HZ6 := Lib.hid hZ6
  have HZl := Lib.hid hZl
  obtain ⟨AZ, hAZ⟩ : ∃ AZ, AZ = (Z6.map UV).toArray := ⟨_, rfl⟩
  rw [← hAZ] at hmk
  have HAZ := Lib.hid hAZ
  have HWd : Hid (Below w.heap.size w w5.drew) := Lib.hid HW5.out.drew
  have hsd : w5.drew.heap.size = w5.heap.size := rfl
  clear hZ6 hZl hAZ
  go_wp2_with fail
  refine wp_region_held_drew (S := fun _ => True) (by kernel_rfl) trivial (fun hHeld0 => ?_)
  refine take_yes 1 17 ?_ rfl rfl (by kernel_rfl) (by kernel_rfl) (by kernel_rfl) (fun _ _ _ h => h) (by kernel_rfl) ?_ (by assumption) ?_; rotate_left; (focus (intro w hSw; (try dsimp only at hSw); go_simp; all_goals first | with_reducible rfl)); simp only [Act.put, List.setIfInBounds_toArray, List.set_cons_zero, List.set_cons_succ]
  refine wpAnyH_ready (rs := [0, 2]) (by kernel_rfl) (by simp) ?_
  refine AllReadyH.cons rfl (fun K hK => ?_) (AllReadyH.cons rfl (fun K hK => ?_) AllReadyH.nil)
  · go_simp
    have HA6 : Hid (Blk (w5.drew.alloc (.cells AZ 38)) w5.heap.size 38 (Z6.map UV).toArray) := Lib.hid (by rw [← HAZ.out]; exact Blk.new w5.drew _ _)
    have HW6 : Hid (Below w5.heap.size w5.drew (w5.drew.alloc (.cells AZ 38))) := Lib.hid ((Below.refl w5.heap.size w5.drew).alloc (Nat.le_refl w5.heap.size) (.cells AZ 38))
    refine hK.out _ _ (trivial) (fun _ => ?_)
    clear hK K
    try simp only [Act.put, List.setIfInBounds_toArray, List.set_cons_zero, List.set_cons_succ]
    refine wpAnyH_ready (rs := [2]) (by kernel_rfl) (by simp) ?_
    refine AllReadyH.cons rfl (fun K hK => ?_) AllReadyH.nil
    go_simp
    refine (r21row_ex _ p hp).mono ?_
    rintro e w6 ⟨gr, rfl, hb6, hw6⟩
    have HA7 : Hid (GotU w5.heap.size w6 (some ⟨w5.heap.size, 0, none⟩) 6 6 Z6) := Lib.hid (got_row (f := UV) (HA6.out.of (hw6.block _ HA6.out.lt)) (Nat.le_refl _) HZl.out (by decide))
    have HW7 := Lib.hid (HW6.out.trans (hw6.mono HW6.out.size))
    have hs6 : w5.heap.size ≤ w6.heap.size := HW7.out.size
    have HBr := Lib.hid hb6
    clear hb6 hw6 HA6 HW6
    refine hK.out _ _ (trivial) (fun _ => ?_)
    clear hK K
    try simp only [Act.put, List.setIfInBounds_toArray, List.set_cons_zero, List.set_cons_succ]
    obtain ⟨A8, c8, w8, hrun, hG8, hW8⟩ := appU (m := 4) (l := rowD p) HA7.out HBr.out rfl (by omega) hs6 (Nat.le_refl _) HW7.out
    have hrow := HB5.out.drew.of (hW8.block _ hs5)
    have HG8 : Hid (GotU w5.heap.size w8 A8 10 c8 (Z6 ++ rowD p)) := Lib.hid hG8
    have HRow := Lib.hid hrow
    have HW8 := Lib.hid (HWd.out.trans (hW8.mono HW5.out.size))
    have hs8 : w5.heap.size ≤ w8.heap.size := hW8.size
    have HW8' := Lib.hid hW8
    clear hG8 hrow hW8
    refine wpAnyH_ready (rs := [3]) (by kernel_rfl) (by simp) ?_
    refine AllReadyH.cons rfl (fun K hK => ?_) AllReadyH.nil
    refine step_append_eq (ts := 52) rfl (.tmp 16) (.tmp 18) rfl rfl rfl rfl hrun ?_
    change K (Act.put _ (some 19) (.slice A8 10 c8)) w8
    refine hK.out _ _ (trivial) (fun _ => ?_)
    clear hK K
    try simp only [Act.put, List.setIfInBounds_toArray, List.set_cons_zero, List.set_cons_succ]
    refine take_yes 4 6 ?_ rfl rfl (by kernel_rfl) (by kernel_rfl) (by kernel_rfl) (fun _ _ _ h => h) (by kernel_rfl) ?_ (by assumption) ?_; rotate_left; (focus (intro w hSw; (try dsimp only at hSw); go_simp; all_goals first | with_reducible rfl)); simp only [Act.put, List.setIfInBounds_toArray, List.set_cons_zero, List.set_cons_succ]
    refine wpAnyH_done (by kernel_rfl) ?_ _
    clear HA7 HBr HW7 hrun
    clear HB34 HB4 HB3 HB2 HB12 HB1 HW1 HW2 HW3 HW4
    go_wp2_with fail
    go_loopw [5] (fun a wr => a = .slice (some ⟨w4.heap.size, 0, none⟩) 14 14 ∧ wr = w8) (fun _ _ => 0)
    case atStart => exact ⟨rfl, rfl⟩
    case round =>
      obtain ⟨rfl, rfl⟩ := hrel
      go_wp2_with fail
      go_loopw [6] (fun b wx => ∃ (j cb : Nat) (B : Option Addr), j ≤ 4 ∧ b = .slice B (10 + j) cb ∧ Hid (GotU w5.heap.size wx B (10 + j) cb (Z6 ++ rowD p ++ List.replicate j 0)) ∧ Hid (Below w5.heap.size w5.drew wx)) (fun b _ => match b with | .slice _ m _ => 14 - m | _ => 0)
      case atStart => exact ⟨0, c8, A8, by omega, rfl, Lib.hid (by rw [List.replicate_zero, List.append_nil]; exact HG8.out), HW8'⟩
      case round =>
        obtain ⟨j, cb, B, hj, rfl, HGj, HWj⟩ := hrel
        have hjs := HWj.out.size
        by_cases hj4 : j < 4
        · have hjI : (10 : Int) + (j : Int) < 14 := by omega
          obtain ⟨A9, c9, w9, hrun9, hG9, hW9⟩ := appU (m := 1) (l := [0]) (w := wr.alloc (.cells #[.int .u64 0] 38)) (GotR.alloc (cells := fun x => [UV x]) (fun _ => rfl) HGj.out (.cells #[.int .u64 0] 38)) (Blk.new wr _ _) rfl (by omega) (by simp; exact Nat.le_succ_of_le hjs) (Nat.le_refl _) (HWj.out.alloc hjs _)
          have HG9 : Hid (GotU w5.heap.size w9 A9 (10 + (j + 1)) c9 (Z6 ++ rowD p ++ List.replicate (j + 1) 0)) := Lib.hid (by
            rw [List.replicate_succ', ← List.append_assoc]
            exact hG9)
          have HW9 := Lib.hid hW9
          clear hG9 hW9
          go_wp2_with (at_builtin; refine wpList_append_eqU rfl (.tmp 33) (.tmp 34) rfl rfl rfl rfl hrun9 ?_)
          go_roundw
          case rel => exact ⟨j + 1, c9, A9, by omega, rfl, HG9, HW9⟩
          case measure => show 14 - (10 + j + 1) < 14 - (10 + j); omega
        · obtain rfl : j = 4 := by omega
          obtain ⟨gb, rfl, hgb⟩ := got_some (f := UV) HGj.out (by omega)
          obtain ⟨L, hL⟩ : ∃ L, L = Z6 ++ rowD p ++ List.replicate 4 0 := ⟨_, rfl⟩
          have HGL : Hid (GotU w5.heap.size wr (some ⟨gb, 0, none⟩) 14 cb L) := Lib.hid (by rw [hL]; exact HGj.out)
          have HL : Hid (L.length = 14 ∧ small L ∧ val L = p * 79228162514264337593543950336) := Lib.hid (by
            rw [hL, HZ6.out]
            refine ⟨rfl, fun x hx => ?_, ?_⟩
            · rcases List.mem_append.1 hx with h | h
              · rcases List.mem_append.1 h with h | h
                · rw [(List.mem_replicate.1 h).2]; omega
                · exact small_rowD p hp x h
              · rw [(List.mem_replicate.1 h).2]; omega
            · rw [val_append, val_append, val_zero, val_zero, val_rowD]
              simp only [List.length_replicate]
              omega)
          have HBa : Hid (Blk wr w4.heap.size 38 (r5.map UV).toArray) := Lib.hid (HB5.out.drew.of (HWj.out.block _ hs5))
          have HWr : Hid (Below w.heap.size w wr) := Lib.hid (HWd.out.trans (HWj.out.mono HW5.out.size))
          clear hL HGj HWj HRow HG8 HW8 HW8'
          go_wp2_with fail
          rename World => wo
          go_loopw [7] (fun i wx => ∃ (j : Nat) (I : Int), j ≤ 14 ∧ i = .int .i64 I ∧ I = (j : Int) - 1 ∧ Hid (r5.drop j = L.drop j) ∧ ∃ d, wx = wo.drewN d) (fun i _ => (intOf i + 1).toNat)
          case atStart => exact ⟨14, 13, by omega, rfl, by omega, Lib.hid (by rw [List.drop_of_length_le (by rw [HR5.out.1]; omega), List.drop_of_length_le (by rw [HL.out.1]; exact Nat.le_refl _)]), 0, rfl⟩
          case round =>
            obtain ⟨j, I, hj, rfl, hI, HD, d, rfl⟩ := hrel
            rcases j with _ | m
            · have hIm : I = -1 := by omega
              subst hIm
              have HF : Hid (decide (p * 79228162514264337593543950336 < y * y * y) = false) := Lib.hid (by
                have e : val r5 = val L := by rw [show r5 = L from HD.out]
                rw [HR5.out.2.2, HL.out.2.2] at e
                rw [e]; simp)
              clear hI
              go_wp2
              go_ret
              exact ⟨by rw [HF.out]; rfl, HWr.out.drewN d⟩
            · obtain rfl : I = (m : Int) := by omega
              obtain ⟨x, hx⟩ : ∃ x, r5[m]? = some x := ⟨_, List.getElem?_eq_getElem (by rw [HR5.out.1]; omega)⟩
              obtain ⟨z, hz⟩ : ∃ z, L[m]? = some z := ⟨_, List.getElem?_eq_getElem (by rw [HL.out.1]; omega)⟩
              have hcx : wo.cell? ⟨w4.heap.size, m, none⟩ = some (.int .u64 (x : Int)) := (HBa.out.cell m).trans (by rw [row_get, hx]; rfl)
              have hcz : wo.cell? ⟨gb, m, none⟩ = some (.int .u64 (z : Int)) := (got_cell (f := UV) HGL.out hz).1
              have hmI : (m : Int) < 14 := by omega
              have HX := Lib.hid hx
              have HZ := Lib.hid hz
              obtain ⟨wd, hwd⟩ : ∃ W, wo.drewN d = W := ⟨_, rfl⟩
              have hdx : wd.drew.cell? ⟨w4.heap.size, m, none⟩ = some (.int .u64 (x : Int)) := by rw [← hwd]; exact hcx
              have hdz : wd.drew.cell? ⟨gb, m, none⟩ = some (.int .u64 (z : Int)) := by rw [← hwd]; exact hcz
              have hex : wd.drew.drew.cell? ⟨w4.heap.size, m, none⟩ = some (.int .u64 (x : Int)) := hdx
              have hez : wd.drew.drew.cell? ⟨gb, m, none⟩ = some (.int .u64 (z : Int)) := hdz
              have HWd2 : Hid (Below w.heap.size w wd.drew.drew) := Lib.hid (by rw [← hwd]; exact (HWr.out.drewN d).drew.drew)
              have HDR : Hid (∃ d2, wd.drew = wo.drewN d2) := Lib.hid ⟨d + 1, by rw [← hwd]; rfl⟩
              rw [hwd]
              clear hI hwd hx hz hcx hcz
              by_cases hxz : x = z
              · have hneI : ((x : Int) != (z : Int)) = false := by rw [hxz]; simp
                have HD2 : Hid (r5.drop m = L.drop m) := Lib.hid (by
                  obtain ⟨a1, a2⟩ := List.getElem?_eq_some_iff.1 HX.out
                  obtain ⟨b1, b2⟩ := List.getElem?_eq_some_iff.1 HZ.out
                  rw [List.drop_eq_getElem_cons a1, List.drop_eq_getElem_cons b1, a2, b2, hxz, HD.out])
                clear hxz
                go_wp2_with fail
                refine wp_region_held_drew (S := fun W => W.cell? ⟨w4.heap.size, m, none⟩ = some (.int .u64 (x : Int)) ∧ W.cell? ⟨gb, m, none⟩ = some (.int .u64 (z : Int))) (by kernel_rfl) ⟨hdx, hdz⟩ (fun hHeld0 => ?_)
                refine take_yes 0 43 ?_ rfl rfl (by kernel_rfl) (by kernel_rfl) (by kernel_rfl) (fun _ _ _ h => h) (by kernel_rfl) ?_ (by assumption) ?_; rotate_left; (focus (intro w hSw; (try dsimp only at hSw); go_simp; all_goals first | with_reducible rfl)); simp only [Act.put, List.setIfInBounds_toArray, List.set_cons_zero, List.set_cons_succ]
                refine take_yes 1 44 ?_ rfl rfl (by kernel_rfl) (by kernel_rfl) (by kernel_rfl) (fun _ _ _ h => h) (by kernel_rfl) ?_ (by assumption) ?_; rotate_left; (focus (intro w hSw; (try dsimp only at hSw); go_simp; all_goals first | with_reducible rfl)); simp only [Act.put, List.setIfInBounds_toArray, List.set_cons_zero, List.set_cons_succ]
                refine take_yes 2 45 ?_ rfl rfl (by kernel_rfl) (by kernel_rfl) (by kernel_rfl) (fun _ _ _ h => h) (by kernel_rfl) ?_ (by assumption) ?_; rotate_left; (focus (intro w hSw; (try dsimp only at hSw); go_simp; all_goals first | with_reducible rfl)); simp only [Act.put, List.setIfInBounds_toArray, List.set_cons_zero, List.set_cons_succ]
                refine take_yes 3 46 ?_ rfl rfl (by kernel_rfl) (by kernel_rfl) (by kernel_rfl) (fun _ _ _ h => h) (by kernel_rfl) ?_ (by assumption) ?_; rotate_left; (focus (intro w hSw; (try dsimp only at hSw); go_simp; all_goals first | with_reducible rfl)); simp only [Act.put, List.setIfInBounds_toArray, List.set_cons_zero, List.set_cons_succ]
                refine take_yes 4 47 ?_ rfl rfl (by kernel_rfl) (by kernel_rfl) (by kernel_rfl) (fun _ _ _ h => h) (by kernel_rfl) ?_ (by assumption) ?_; rotate_left; (focus (intro w hSw; (try dsimp only at hSw); go_simp; all_goals first | with_reducible rfl)); simp only [Act.put, List.setIfInBounds_toArray, List.set_cons_zero, List.set_cons_succ]
                refine take_yes 5 48 ?_ rfl rfl (by kernel_rfl) (by kernel_rfl) (by kernel_rfl) (fun _ _ _ h => h) (by kernel_rfl) ?_ (by assumption) ?_; rotate_left; (focus (intro w hSw; (try dsimp only at hSw); go_simp; all_goals first | with_reducible rfl)); simp only [Act.put, List.setIfInBounds_toArray, List.set_cons_zero, List.set_cons_succ]
                refine take_yes 6 49 ?_ rfl rfl (by kernel_rfl) (by kernel_rfl) (by kernel_rfl) (fun _ _ _ h => h) (by kernel_rfl) ?_ (by assumption) ?_; rotate_left; (focus (intro w hSw; (try dsimp only at hSw); go_simp; all_goals first | with_reducible rfl)); simp only [Act.put, List.setIfInBounds_toArray, List.set_cons_zero, List.set_cons_succ]
                refine take_yes 7 50 ?_ rfl rfl (by kernel_rfl) (by kernel_rfl) (by kernel_rfl) (fun _ _ _ h => h) (by kernel_rfl) ?_ (by assumption) ?_; rotate_left; (focus (intro w hSw; (try dsimp only at hSw); go_simp; all_goals first | with_reducible rfl)); simp only [Act.put, List.setIfInBounds_toArray, List.set_cons_zero, List.set_cons_succ]
                refine take_yes 8 51 (.bool false) rfl rfl (by kernel_rfl) (by kernel_rfl) (by kernel_rfl) (fun _ _ _ h => h) (by kernel_rfl) ?_ (by assumption) ?_; (focus (intro w hSw; (try dsimp only at hSw); go_simp; all_goals first | with_reducible rfl | simp [hneI])); simp only [Act.put, List.setIfInBounds_toArray, List.set_cons_zero, List.set_cons_succ]
                refine wpAnyH_done (by kernel_rfl) ?_ _
                go_wp2
                exact ⟨⟨m, (m : Int) - 1, by omega, rfl, rfl, HD2, HDR.out⟩, by simp only [intOf]; omega⟩
              · have hneI : ((x : Int) != (z : Int)) = true := by simp; omega
                have HF : Hid (decide (p * 79228162514264337593543950336 < y * y * y) = decide (z < x)) := Lib.hid (by
                  have h := val_gt r5 L m x z HR5.out.2.1 HL.out.2.1 HX.out HZ.out HD.out hxz
                  rw [HR5.out.2.2, HL.out.2.2] at h
                  exact h.symm)
                clear hxz
                go_wp2_with fail
                refine wp_region_held_drew (S := fun W => W.cell? ⟨w4.heap.size, m, none⟩ = some (.int .u64 (x : Int)) ∧ W.cell? ⟨gb, m, none⟩ = some (.int .u64 (z : Int))) (by kernel_rfl) ⟨hdx, hdz⟩ (fun hHeld0 => ?_)
                refine take_yes 0 43 ?_ rfl rfl (by kernel_rfl) (by kernel_rfl) (by kernel_rfl) (fun _ _ _ h => h) (by kernel_rfl) ?_ (by assumption) ?_; rotate_left; (focus (intro w hSw; (try dsimp only at hSw); go_simp; all_goals first | with_reducible rfl)); simp only [Act.put, List.setIfInBounds_toArray, List.set_cons_zero, List.set_cons_succ]
                refine take_yes 1 44 ?_ rfl rfl (by kernel_rfl) (by kernel_rfl) (by kernel_rfl) (fun _ _ _ h => h) (by kernel_rfl) ?_ (by assumption) ?_; rotate_left; (focus (intro w hSw; (try dsimp only at hSw); go_simp; all_goals first | with_reducible rfl)); simp only [Act.put, List.setIfInBounds_toArray, List.set_cons_zero, List.set_cons_succ]
                refine take_yes 2 45 ?_ rfl rfl (by kernel_rfl) (by kernel_rfl) (by kernel_rfl) (fun _ _ _ h => h) (by kernel_rfl) ?_ (by assumption) ?_; rotate_left; (focus (intro w hSw; (try dsimp only at hSw); go_simp; all_goals first | with_reducible rfl)); simp only [Act.put, List.setIfInBounds_toArray, List.set_cons_zero, List.set_cons_succ]
                refine take_yes 3 46 ?_ rfl rfl (by kernel_rfl) (by kernel_rfl) (by kernel_rfl) (fun _ _ _ h => h) (by kernel_rfl) ?_ (by assumption) ?_; rotate_left; (focus (intro w hSw; (try dsimp only at hSw); go_simp; all_goals first | with_reducible rfl)); simp only [Act.put, List.setIfInBounds_toArray, List.set_cons_zero, List.set_cons_succ]
                refine take_yes 4 47 ?_ rfl rfl (by kernel_rfl) (by kernel_rfl) (by kernel_rfl) (fun _ _ _ h => h) (by kernel_rfl) ?_ (by assumption) ?_; rotate_left; (focus (intro w hSw; (try dsimp only at hSw); go_simp; all_goals first | with_reducible rfl)); simp only [Act.put, List.setIfInBounds_toArray, List.set_cons_zero, List.set_cons_succ]
                refine take_yes 5 48 ?_ rfl rfl (by kernel_rfl) (by kernel_rfl) (by kernel_rfl) (fun _ _ _ h => h) (by kernel_rfl) ?_ (by assumption) ?_; rotate_left; (focus (intro w hSw; (try dsimp only at hSw); go_simp; all_goals first | with_reducible rfl)); simp only [Act.put, List.setIfInBounds_toArray, List.set_cons_zero, List.set_cons_succ]
                refine take_yes 6 49 ?_ rfl rfl (by kernel_rfl) (by kernel_rfl) (by kernel_rfl) (fun _ _ _ h => h) (by kernel_rfl) ?_ (by assumption) ?_; rotate_left; (focus (intro w hSw; (try dsimp only at hSw); go_simp; all_goals first | with_reducible rfl)); simp only [Act.put, List.setIfInBounds_toArray, List.set_cons_zero, List.set_cons_succ]
                refine take_yes 7 50 ?_ rfl rfl (by kernel_rfl) (by kernel_rfl) (by kernel_rfl) (fun _ _ _ h => h) (by kernel_rfl) ?_ (by assumption) ?_; rotate_left; (focus (intro w hSw; (try dsimp only at hSw); go_simp; all_goals first | with_reducible rfl)); simp only [Act.put, List.setIfInBounds_toArray, List.set_cons_zero, List.set_cons_succ]
                refine take_yes 8 51 (.bool true) rfl rfl (by kernel_rfl) (by kernel_rfl) (by kernel_rfl) (fun _ _ _ h => h) (by kernel_rfl) ?_ (by assumption) ?_; (focus (intro w hSw; (try dsimp only at hSw); go_simp; all_goals first | with_reducible rfl | simp [hneI])); simp only [Act.put, List.setIfInBounds_toArray, List.set_cons_zero, List.set_cons_succ]
                refine wpAnyH_done (by kernel_rfl) ?_ _
                go_wp2_with fail
                refine wp_region_held_drew (S := fun W => W.cell? ⟨w4.heap.size, m, none⟩ = some (.int .u64 (x : Int)) ∧ W.cell? ⟨gb, m, none⟩ = some (.int .u64 (z : Int))) (by kernel_rfl) ⟨hex, hez⟩ (fun hHeld0 => ?_)
                refine take_yes 0 52 ?_ rfl rfl (by kernel_rfl) (by kernel_rfl) (by kernel_rfl) (fun _ _ _ h => h) (by kernel_rfl) ?_ (by assumption) ?_; rotate_left; (focus (intro w hSw; (try dsimp only at hSw); go_simp; all_goals first | with_reducible rfl)); simp only [Act.put, List.setIfInBounds_toArray, List.set_cons_zero, List.set_cons_succ]
                refine take_yes 1 53 ?_ rfl rfl (by kernel_rfl) (by kernel_rfl) (by kernel_rfl) (fun _ _ _ h => h) (by kernel_rfl) ?_ (by assumption) ?_; rotate_left; (focus (intro w hSw; (try dsimp only at hSw); go_simp; all_goals first | with_reducible rfl)); simp only [Act.put, List.setIfInBounds_toArray, List.set_cons_zero, List.set_cons_succ]
                refine take_yes 2 54 ?_ rfl rfl (by kernel_rfl) (by kernel_rfl) (by kernel_rfl) (fun _ _ _ h => h) (by kernel_rfl) ?_ (by assumption) ?_; rotate_left; (focus (intro w hSw; (try dsimp only at hSw); go_simp; all_goals first | with_reducible rfl)); simp only [Act.put, List.setIfInBounds_toArray, List.set_cons_zero, List.set_cons_succ]
                refine take_yes 3 55 ?_ rfl rfl (by kernel_rfl) (by kernel_rfl) (by kernel_rfl) (fun _ _ _ h => h) (by kernel_rfl) ?_ (by assumption) ?_; rotate_left; (focus (intro w hSw; (try dsimp only at hSw); go_simp; all_goals first | with_reducible rfl)); simp only [Act.put, List.setIfInBounds_toArray, List.set_cons_zero, List.set_cons_succ]
                refine take_yes 4 56 ?_ rfl rfl (by kernel_rfl) (by kernel_rfl) (by kernel_rfl) (fun _ _ _ h => h) (by kernel_rfl) ?_ (by assumption) ?_; rotate_left; (focus (intro w hSw; (try dsimp only at hSw); go_simp; all_goals first | with_reducible rfl)); simp only [Act.put, List.setIfInBounds_toArray, List.set_cons_zero, List.set_cons_succ]
                refine take_yes 5 57 ?_ rfl rfl (by kernel_rfl) (by kernel_rfl) (by kernel_rfl) (fun _ _ _ h => h) (by kernel_rfl) ?_ (by assumption) ?_; rotate_left; (focus (intro w hSw; (try dsimp only at hSw); go_simp; all_goals first | with_reducible rfl)); simp only [Act.put, List.setIfInBounds_toArray, List.set_cons_zero, List.set_cons_succ]
                refine take_yes 6 58 ?_ rfl rfl (by kernel_rfl) (by kernel_rfl) (by kernel_rfl) (fun _ _ _ h => h) (by kernel_rfl) ?_ (by assumption) ?_; rotate_left; (focus (intro w hSw; (try dsimp only at hSw); go_simp; all_goals first | with_reducible rfl)); simp only [Act.put, List.setIfInBounds_toArray, List.set_cons_zero, List.set_cons_succ]
                refine take_yes 7 59 ?_ rfl rfl (by kernel_rfl) (by kernel_rfl) (by kernel_rfl) (fun _ _ _ h => h) (by kernel_rfl) ?_ (by assumption) ?_; rotate_left; (focus (intro w hSw; (try dsimp only at hSw); go_simp; all_goals first | with_reducible rfl)); simp only [Act.put, List.setIfInBounds_toArray, List.set_cons_zero, List.set_cons_succ]
                refine take_yes 8 60 ?_ rfl rfl (by kernel_rfl) (by kernel_rfl) (by kernel_rfl) (fun _ _ _ h => h) (by kernel_rfl) ?_ (by assumption) ?_; rotate_left; (focus (intro w hSw; (try dsimp only at hSw); go_simp; all_goals first | with_reducible rfl)); simp only [Act.put, List.setIfInBounds_toArray, List.set_cons_zero, List.set_cons_succ]
                refine take_yes 9 4 ?_ rfl rfl (by kernel_rfl) (by kernel_rfl) (by kernel_rfl) (fun _ _ _ h => h) (by kernel_rfl) ?_ (by assumption) ?_; rotate_left; (focus (intro w hSw; (try dsimp only at hSw); go_simp; all_goals first | with_reducible rfl)); simp only [Act.put, List.setIfInBounds_toArray, List.set_cons_zero, List.set_cons_succ]
                refine wpAnyH_done (by kernel_rfl) ?_ _
                go_wp2
                go_ret
                exact ⟨by rw [HF.out]; rfl, HWd2.out⟩
  · go_simp
    refine (r21row_ex _ p hp).mono ?_
    rintro e w6 ⟨gr, rfl, hb6, hw6⟩
    have HW6 : Hid (Below w5.heap.size w5.drew w6) := Lib.hid hw6
    refine hK.out _ _ (trivial) (fun _ => ?_)
    clear hK K
    try simp only [Act.put, List.setIfInBounds_toArray, List.set_cons_zero, List.set_cons_succ]
    refine wpAnyH_ready (rs := [0]) (by kernel_rfl) (by simp) ?_
    refine AllReadyH.cons rfl (fun K hK => ?_) AllReadyH.nil
    go_simp
    have HA7 : Hid (GotU w5.heap.size (w6.alloc (.cells AZ 38)) (some ⟨w6.heap.size, 0, none⟩) 6 6 Z6) := Lib.hid (got_row (f := UV) (by rw [← HAZ.out]; exact Blk.new w6 _ _) HW6.out.size HZl.out (by decide))
    have HW7 := Lib.hid (HW6.out.alloc HW6.out.size (.cells AZ 38))
    have hs6 : w5.heap.size ≤ (w6.alloc (.cells AZ 38)).heap.size := HW7.out.size
    have HBr := Lib.hid (hb6.alloc (.cells AZ 38))
    clear hb6 hw6 HW6
    refine hK.out _ _ (trivial) (fun _ => ?_)
    clear hK K
    try simp only [Act.put, List.setIfInBounds_toArray, List.set_cons_zero, List.set_cons_succ]
    obtain ⟨A8, c8, w8, hrun, hG8, hW8⟩ := appU (m := 4) (l := rowD p) HA7.out HBr.out rfl (by omega) hs6 (Nat.le_refl _) HW7.out
    have hrow := HB5.out.drew.of (hW8.block _ hs5)
    have HG8 : Hid (GotU w5.heap.size w8 A8 10 c8 (Z6 ++ rowD p)) := Lib.hid hG8
    have HRow := Lib.hid hrow
    have HW8 := Lib.hid (HWd.out.trans (hW8.mono HW5.out.size))
    have hs8 : w5.heap.size ≤ w8.heap.size := hW8.size
    have HW8' := Lib.hid hW8
    clear hG8 hrow hW8
    refine wpAnyH_ready (rs := [3]) (by kernel_rfl) (by simp) ?_
    refine AllReadyH.cons rfl (fun K hK => ?_) AllReadyH.nil
    refine step_append_eq (ts := 52) rfl (.tmp 16) (.tmp 18) rfl rfl rfl rfl hrun ?_
    change K (Act.put _ (some 19) (.slice A8 10 c8)) w8
    refine hK.out _ _ (trivial) (fun _ => ?_)
    clear hK K
    try simp only [Act.put, List.setIfInBounds_toArray, List.set_cons_zero, List.set_cons_succ]
    refine take_yes 4 6 ?_ rfl rfl (by kernel_rfl) (by kernel_rfl) (by kernel_rfl) (fun _ _ _ h => h) (by kernel_rfl) ?_ (by assumption) ?_; rotate_left; (focus (intro w hSw; (try dsimp only at hSw); go_simp; all_goals first | with_reducible rfl)); simp only [Act.put, List.setIfInBounds_toArray, List.set_cons_zero, List.set_cons_succ]
    refine wpAnyH_done (by kernel_rfl) ?_ _
    clear HA7 HBr HW7 hrun
    clear HB34 HB4 HB3 HB2 HB12 HB1 HW1 HW2 HW3 HW4
    go_wp2_with fail
    go_loopw [5] (fun a wr => a = .slice (some ⟨w4.heap.size, 0, none⟩) 14 14 ∧ wr = w8) (fun _ _ => 0)
    case atStart => exact ⟨rfl, rfl⟩
    case round =>
      obtain ⟨rfl, rfl⟩ := hrel
      go_wp2_with fail
      go_loopw [6] (fun b wx => ∃ (j cb : Nat) (B : Option Addr), j ≤ 4 ∧ b = .slice B (10 + j) cb ∧ Hid (GotU w5.heap.size wx B (10 + j) cb (Z6 ++ rowD p ++ List.replicate j 0)) ∧ Hid (Below w5.heap.size w5.drew wx)) (fun b _ => match b with | .slice _ m _ => 14 - m | _ => 0)
      case atStart => exact ⟨0, c8, A8, by omega, rfl, Lib.hid (by rw [List.replicate_zero, List.append_nil]; exact HG8.out), HW8'⟩
      case round =>
        obtain ⟨j, cb, B, hj, rfl, HGj, HWj⟩ := hrel
        have hjs := HWj.out.size
        by_cases hj4 : j < 4
        · have hjI : (10 : Int) + (j : Int) < 14 := by omega
          obtain ⟨A9, c9, w9, hrun9, hG9, hW9⟩ := appU (m := 1) (l := [0]) (w := wr.alloc (.cells #[.int .u64 0] 38)) (GotR.alloc (cells := fun x => [UV x]) (fun _ => rfl) HGj.out (.cells #[.int .u64 0] 38)) (Blk.new wr _ _) rfl (by omega) (by simp; exact Nat.le_succ_of_le hjs) (Nat.le_refl _) (HWj.out.alloc hjs _)
          have HG9 : Hid (GotU w5.heap.size w9 A9 (10 + (j + 1)) c9 (Z6 ++ rowD p ++ List.replicate (j + 1) 0)) := Lib.hid (by
            rw [List.replicate_succ', ← List.append_assoc]
            exact hG9)
          have HW9 := Lib.hid hW9
          clear hG9 hW9
          go_wp2_with (at_builtin; refine wpList_append_eqU rfl (.tmp 33) (.tmp 34) rfl rfl rfl rfl hrun9 ?_)
          go_roundw
          case rel => exact ⟨j + 1, c9, A9, by omega, rfl, HG9, HW9⟩
          case measure => show 14 - (10 + j + 1) < 14 - (10 + j); omega
        · obtain rfl : j = 4 := by omega
          obtain ⟨gb, rfl, hgb⟩ := got_some (f := UV) HGj.out (by omega)
          obtain ⟨L, hL⟩ : ∃ L, L = Z6 ++ rowD p ++ List.replicate 4 0 := ⟨_, rfl⟩
          have HGL : Hid (GotU w5.heap.size wr (some ⟨gb, 0, none⟩) 14 cb L) := Lib.hid (by rw [hL]; exact HGj.out)
          have HL : Hid (L.length = 14 ∧ small L ∧ val L = p * 79228162514264337593543950336) := Lib.hid (by
            rw [hL, HZ6.out]
            refine ⟨rfl, fun x hx => ?_, ?_⟩
            · rcases List.mem_append.1 hx with h | h
              · rcases List.mem_append.1 h with h | h
                · rw [(List.mem_replicate.1 h).2]; omega
                · exact small_rowD p hp x h
              · rw [(List.mem_replicate.1 h).2]; omega
            · rw [val_append, val_append, val_zero, val_zero, val_rowD]
              simp only [List.length_replicate]
              omega)
          have HBa : Hid (Blk wr w4.heap.size 38 (r5.map UV).toArray) := Lib.hid (HB5.out.drew.of (HWj.out.block _ hs5))
          have HWr : Hid (Below w.heap.size w wr) := Lib.hid (HWd.out.trans (HWj.out.mono HW5.out.size))
          clear hL HGj HWj HRow HG8 HW8 HW8'
          go_wp2_with fail
          rename World => wo
          go_loopw [7] (fun i wx => ∃ (j : Nat) (I : Int), j ≤ 14 ∧ i = .int .i64 I ∧ I = (j : Int) - 1 ∧ Hid (r5.drop j = L.drop j) ∧ ∃ d, wx = wo.drewN d) (fun i _ => (intOf i + 1).toNat)
          case atStart => exact ⟨14, 13, by omega, rfl, by omega, Lib.hid (by rw [List.drop_of_length_le (by rw [HR5.out.1]; omega), List.drop_of_length_le (by rw [HL.out.1]; exact Nat.le_refl _)]), 0, rfl⟩
          case round =>
            obtain ⟨j, I, hj, rfl, hI, HD, d, rfl⟩ := hrel
            rcases j with _ | m
            · have hIm : I = -1 := by omega
              subst hIm
              have HF : Hid (decide (p * 79228162514264337593543950336 < y * y * y) = false) := Lib.hid (by
                have e : val r5 = val L := by rw [show r5 = L from HD.out]
                rw [HR5.out.2.2, HL.out.2.2] at e
                rw [e]; simp)
              clear hI
              go_wp2
              go_ret
              exact ⟨by rw [HF.out]; rfl, HWr.out.drewN d⟩
            · obtain rfl : I = (m : Int) := by omega
              obtain ⟨x, hx⟩ : ∃ x, r5[m]? = some x := ⟨_, List.getElem?_eq_getElem (by rw [HR5.out.1]; omega)⟩
              obtain ⟨z, hz⟩ : ∃ z, L[m]? = some z := ⟨_, List.getElem?_eq_getElem (by rw [HL.out.1]; omega)⟩
              have hcx : wo.cell? ⟨w4.heap.size, m, none⟩ = some (.int .u64 (x : Int)) := (HBa.out.cell m).trans (by rw [row_get, hx]; rfl)
              have hcz : wo.cell? ⟨gb, m, none⟩ = some (.int .u64 (z : Int)) := (got_cell (f := UV) HGL.out hz).1
              have hmI : (m : Int) < 14 := by omega
              have HX := Lib.hid hx
              have HZ := Lib.hid hz
              obtain ⟨wd, hwd⟩ : ∃ W, wo.drewN d = W := ⟨_, rfl⟩
              have hdx : wd.drew.cell? ⟨w4.heap.size, m, none⟩ = some (.int .u64 (x : Int)) := by rw [← hwd]; exact hcx
              have hdz : wd.drew.cell? ⟨gb, m, none⟩ = some (.int .u64 (z : Int)) := by rw [← hwd]; exact hcz
              have hex : wd.drew.drew.cell? ⟨w4.heap.size, m, none⟩ = some (.int .u64 (x : Int)) := hdx
              have hez : wd.drew.drew.cell? ⟨gb, m, none⟩ = some (.int .u64 (z : Int)) := hdz
              have HWd2 : Hid (Below w.heap.size w wd.drew.drew) := Lib.hid (by rw [← hwd]; exact (HWr.out.drewN d).drew.drew)
              have HDR : Hid (∃ d2, wd.drew = wo.drewN d2) := Lib.hid ⟨d + 1, by rw [← hwd]; rfl⟩
              rw [hwd]
              clear hI hwd hx hz hcx hcz
              by_cases hxz : x = z
              · have hneI : ((x : Int) != (z : Int)) = false := by rw [hxz]; simp
                have HD2 : Hid (r5.drop m = L.drop m) := Lib.hid (by
                  obtain ⟨a1, a2⟩ := List.getElem?_eq_some_iff.1 HX.out
                  obtain ⟨b1, b2⟩ := List.getElem?_eq_some_iff.1 HZ.out
                  rw [List.drop_eq_getElem_cons a1, List.drop_eq_getElem_cons b1, a2, b2, hxz, HD.out])
                clear hxz
                go_wp2_with fail
                refine wp_region_held_drew (S := fun W => W.cell? ⟨w4.heap.size, m, none⟩ = some (.int .u64 (x : Int)) ∧ W.cell? ⟨gb, m, none⟩ = some (.int .u64 (z : Int))) (by kernel_rfl) ⟨hdx, hdz⟩ (fun hHeld0 => ?_)
                refine take_yes 0 43 ?_ rfl rfl (by kernel_rfl) (by kernel_rfl) (by kernel_rfl) (fun _ _ _ h => h) (by kernel_rfl) ?_ (by assumption) ?_; rotate_left; (focus (intro w hSw; (try dsimp only at hSw); go_simp; all_goals first | with_reducible rfl)); simp only [Act.put, List.setIfInBounds_toArray, List.set_cons_zero, List.set_cons_succ]
                refine take_yes 1 44 ?_ rfl rfl (by kernel_rfl) (by kernel_rfl) (by kernel_rfl) (fun _ _ _ h => h) (by kernel_rfl) ?_ (by assumption) ?_; rotate_left; (focus (intro w hSw; (try dsimp only at hSw); go_simp; all_goals first | with_reducible rfl)); simp only [Act.put, List.setIfInBounds_toArray, List.set_cons_zero, List.set_cons_succ]
                refine take_yes 2 45 ?_ rfl rfl (by kernel_rfl) (by kernel_rfl) (by kernel_rfl) (fun _ _ _ h => h) (by kernel_rfl) ?_ (by assumption) ?_; rotate_left; (focus (intro w hSw; (try dsimp only at hSw); go_simp; all_goals first | with_reducible rfl)); simp only [Act.put, List.setIfInBounds_toArray, List.set_cons_zero, List.set_cons_succ]
                refine take_yes 3 46 ?_ rfl rfl (by kernel_rfl) (by kernel_rfl) (by kernel_rfl) (fun _ _ _ h => h) (by kernel_rfl) ?_ (by assumption) ?_; rotate_left; (focus (intro w hSw; (try dsimp only at hSw); go_simp; all_goals first | with_reducible rfl)); simp only [Act.put, List.setIfInBounds_toArray, List.set_cons_zero, List.set_cons_succ]
                refine take_yes 4 47 ?_ rfl rfl (by kernel_rfl) (by kernel_rfl) (by kernel_rfl) (fun _ _ _ h => h) (by kernel_rfl) ?_ (by assumption) ?_; rotate_left; (focus (intro w hSw; (try dsimp only at hSw); go_simp; all_goals first | with_reducible rfl)); simp only [Act.put, List.setIfInBounds_toArray, List.set_cons_zero, List.set_cons_succ]
                refine take_yes 5 48 ?_ rfl rfl (by kernel_rfl) (by kernel_rfl) (by kernel_rfl) (fun _ _ _ h => h) (by kernel_rfl) ?_ (by assumption) ?_; rotate_left; (focus (intro w hSw; (try dsimp only at hSw); go_simp; all_goals first | with_reducible rfl)); simp only [Act.put, List.setIfInBounds_toArray, List.set_cons_zero, List.set_cons_succ]
                refine take_yes 6 49 ?_ rfl rfl (by kernel_rfl) (by kernel_rfl) (by kernel_rfl) (fun _ _ _ h => h) (by kernel_rfl) ?_ (by assumption) ?_; rotate_left; (focus (intro w hSw; (try dsimp only at hSw); go_simp; all_goals first | with_reducible rfl)); simp only [Act.put, List.setIfInBounds_toArray, List.set_cons_zero, List.set_cons_succ]
                refine take_yes 7 50 ?_ rfl rfl (by kernel_rfl) (by kernel_rfl) (by kernel_rfl) (fun _ _ _ h => h) (by kernel_rfl) ?_ (by assumption) ?_; rotate_left; (focus (intro w hSw; (try dsimp only at hSw); go_simp; all_goals first | with_reducible rfl)); simp only [Act.put, List.setIfInBounds_toArray, List.set_cons_zero, List.set_cons_succ]
                refine take_yes 8 51 (.bool false) rfl rfl (by kernel_rfl) (by kernel_rfl) (by kernel_rfl) (fun _ _ _ h => h) (by kernel_rfl) ?_ (by assumption) ?_; (focus (intro w hSw; (try dsimp only at hSw); go_simp; all_goals first | with_reducible rfl | simp [hneI])); simp only [Act.put, List.setIfInBounds_toArray, List.set_cons_zero, List.set_cons_succ]
                refine wpAnyH_done (by kernel_rfl) ?_ _
                go_wp2
                exact ⟨⟨m, (m : Int) - 1, by omega, rfl, rfl, HD2, HDR.out⟩, by simp only [intOf]; omega⟩
              · have hneI : ((x : Int) != (z : Int)) = true := by simp; omega
                have HF : Hid (decide (p * 79228162514264337593543950336 < y * y * y) = decide (z < x)) := Lib.hid (by
                  have h := val_gt r5 L m x z HR5.out.2.1 HL.out.2.1 HX.out HZ.out HD.out hxz
                  rw [HR5.out.2.2, HL.out.2.2] at h
                  exact h.symm)
                clear hxz
                go_wp2_with fail
                refine wp_region_held_drew (S := fun W => W.cell? ⟨w4.heap.size, m, none⟩ = some (.int .u64 (x : Int)) ∧ W.cell? ⟨gb, m, none⟩ = some (.int .u64 (z : Int))) (by kernel_rfl) ⟨hdx, hdz⟩ (fun hHeld0 => ?_)
                refine take_yes 0 43 ?_ rfl rfl (by kernel_rfl) (by kernel_rfl) (by kernel_rfl) (fun _ _ _ h => h) (by kernel_rfl) ?_ (by assumption) ?_; rotate_left; (focus (intro w hSw; (try dsimp only at hSw); go_simp; all_goals first | with_reducible rfl)); simp only [Act.put, List.setIfInBounds_toArray, List.set_cons_zero, List.set_cons_succ]
                refine take_yes 1 44 ?_ rfl rfl (by kernel_rfl) (by kernel_rfl) (by kernel_rfl) (fun _ _ _ h => h) (by kernel_rfl) ?_ (by assumption) ?_; rotate_left; (focus (intro w hSw; (try dsimp only at hSw); go_simp; all_goals first | with_reducible rfl)); simp only [Act.put, List.setIfInBounds_toArray, List.set_cons_zero, List.set_cons_succ]
                refine take_yes 2 45 ?_ rfl rfl (by kernel_rfl) (by kernel_rfl) (by kernel_rfl) (fun _ _ _ h => h) (by kernel_rfl) ?_ (by assumption) ?_; rotate_left; (focus (intro w hSw; (try dsimp only at hSw); go_simp; all_goals first | with_reducible rfl)); simp only [Act.put, List.setIfInBounds_toArray, List.set_cons_zero, List.set_cons_succ]
                refine take_yes 3 46 ?_ rfl rfl (by kernel_rfl) (by kernel_rfl) (by kernel_rfl) (fun _ _ _ h => h) (by kernel_rfl) ?_ (by assumption) ?_; rotate_left; (focus (intro w hSw; (try dsimp only at hSw); go_simp; all_goals first | with_reducible rfl)); simp only [Act.put, List.setIfInBounds_toArray, List.set_cons_zero, List.set_cons_succ]
                refine take_yes 4 47 ?_ rfl rfl (by kernel_rfl) (by kernel_rfl) (by kernel_rfl) (fun _ _ _ h => h) (by kernel_rfl) ?_ (by assumption) ?_; rotate_left; (focus (intro w hSw; (try dsimp only at hSw); go_simp; all_goals first | with_reducible rfl)); simp only [Act.put, List.setIfInBounds_toArray, List.set_cons_zero, List.set_cons_succ]
                refine take_yes 5 48 ?_ rfl rfl (by kernel_rfl) (by kernel_rfl) (by kernel_rfl) (fun _ _ _ h => h) (by kernel_rfl) ?_ (by assumption) ?_; rotate_left; (focus (intro w hSw; (try dsimp only at hSw); go_simp; all_goals first | with_reducible rfl)); simp only [Act.put, List.setIfInBounds_toArray, List.set_cons_zero, List.set_cons_succ]
                refine take_yes 6 49 ?_ rfl rfl (by kernel_rfl) (by kernel_rfl) (by kernel_rfl) (fun _ _ _ h => h) (by kernel_rfl) ?_ (by assumption) ?_; rotate_left; (focus (intro w hSw; (try dsimp only at hSw); go_simp; all_goals first | with_reducible rfl)); simp only [Act.put, List.setIfInBounds_toArray, List.set_cons_zero, List.set_cons_succ]
                refine take_yes 7 50 ?_ rfl rfl (by kernel_rfl) (by kernel_rfl) (by kernel_rfl) (fun _ _ _ h => h) (by kernel_rfl) ?_ (by assumption) ?_; rotate_left; (focus (intro w hSw; (try dsimp only at hSw); go_simp; all_goals first | with_reducible rfl)); simp only [Act.put, List.setIfInBounds_toArray, List.set_cons_zero, List.set_cons_succ]
                refine take_yes 8 51 (.bool true) rfl rfl (by kernel_rfl) (by kernel_rfl) (by kernel_rfl) (fun _ _ _ h => h) (by kernel_rfl) ?_ (by assumption) ?_; (focus (intro w hSw; (try dsimp only at hSw); go_simp; all_goals first | with_reducible rfl | simp [hneI])); simp only [Act.put, List.setIfInBounds_toArray, List.set_cons_zero, List.set_cons_succ]
                refine wpAnyH_done (by kernel_rfl) ?_ _
                go_wp2_with fail
                refine wp_region_held_drew (S := fun W => W.cell? ⟨w4.heap.size, m, none⟩ = some (.int .u64 (x : Int)) ∧ W.cell? ⟨gb, m, none⟩ = some (.int .u64 (z : Int))) (by kernel_rfl) ⟨hex, hez⟩ (fun hHeld0 => ?_)
                refine take_yes 0 52 ?_ rfl rfl (by kernel_rfl) (by kernel_rfl) (by kernel_rfl) (fun _ _ _ h => h) (by kernel_rfl) ?_ (by assumption) ?_; rotate_left; (focus (intro w hSw; (try dsimp only at hSw); go_simp; all_goals first | with_reducible rfl)); simp only [Act.put, List.setIfInBounds_toArray, List.set_cons_zero, List.set_cons_succ]
                refine take_yes 1 53 ?_ rfl rfl (by kernel_rfl) (by kernel_rfl) (by kernel_rfl) (fun _ _ _ h => h) (by kernel_rfl) ?_ (by assumption) ?_; rotate_left; (focus (intro w hSw; (try dsimp only at hSw); go_simp; all_goals first | with_reducible rfl)); simp only [Act.put, List.setIfInBounds_toArray, List.set_cons_zero, List.set_cons_succ]
                refine take_yes 2 54 ?_ rfl rfl (by kernel_rfl) (by kernel_rfl) (by kernel_rfl) (fun _ _ _ h => h) (by kernel_rfl) ?_ (by assumption) ?_; rotate_left; (focus (intro w hSw; (try dsimp only at hSw); go_simp; all_goals first | with_reducible rfl)); simp only [Act.put, List.setIfInBounds_toArray, List.set_cons_zero, List.set_cons_succ]
                refine take_yes 3 55 ?_ rfl rfl (by kernel_rfl) (by kernel_rfl) (by kernel_rfl) (fun _ _ _ h => h) (by kernel_rfl) ?_ (by assumption) ?_; rotate_left; (focus (intro w hSw; (try dsimp only at hSw); go_simp; all_goals first | with_reducible rfl)); simp only [Act.put, List.setIfInBounds_toArray, List.set_cons_zero, List.set_cons_succ]
                refine take_yes 4 56 ?_ rfl rfl (by kernel_rfl) (by kernel_rfl) (by kernel_rfl) (fun _ _ _ h => h) (by kernel_rfl) ?_ (by assumption) ?_; rotate_left; (focus (intro w hSw; (try dsimp only at hSw); go_simp; all_goals first | with_reducible rfl)); simp only [Act.put, List.setIfInBounds_toArray, List.set_cons_zero, List.set_cons_succ]
                refine take_yes 5 57 ?_ rfl rfl (by kernel_rfl) (by kernel_rfl) (by kernel_rfl) (fun _ _ _ h => h) (by kernel_rfl) ?_ (by assumption) ?_; rotate_left; (focus (intro w hSw; (try dsimp only at hSw); go_simp; all_goals first | with_reducible rfl)); simp only [Act.put, List.setIfInBounds_toArray, List.set_cons_zero, List.set_cons_succ]
                refine take_yes 6 58 ?_ rfl rfl (by kernel_rfl) (by kernel_rfl) (by kernel_rfl) (fun _ _ _ h => h) (by kernel_rfl) ?_ (by assumption) ?_; rotate_left; (focus (intro w hSw; (try dsimp only at hSw); go_simp; all_goals first | with_reducible rfl)); simp only [Act.put, List.setIfInBounds_toArray, List.set_cons_zero, List.set_cons_succ]
                refine take_yes 7 59 ?_ rfl rfl (by kernel_rfl) (by kernel_rfl) (by kernel_rfl) (fun _ _ _ h => h) (by kernel_rfl) ?_ (by assumption) ?_; rotate_left; (focus (intro w hSw; (try dsimp only at hSw); go_simp; all_goals first | with_reducible rfl)); simp only [Act.put, List.setIfInBounds_toArray, List.set_cons_zero, List.set_cons_succ]
                refine take_yes 8 60 ?_ rfl rfl (by kernel_rfl) (by kernel_rfl) (by kernel_rfl) (fun _ _ _ h => h) (by kernel_rfl) ?_ (by assumption) ?_; rotate_left; (focus (intro w hSw; (try dsimp only at hSw); go_simp; all_goals first | with_reducible rfl)); simp only [Act.put, List.setIfInBounds_toArray, List.set_cons_zero, List.set_cons_succ]
                refine take_yes 9 4 ?_ rfl rfl (by kernel_rfl) (by kernel_rfl) (by kernel_rfl) (fun _ _ _ h => h) (by kernel_rfl) ?_ (by assumption) ?_; rotate_left; (focus (intro w hSw; (try dsimp only at hSw); go_simp; all_goals first | with_reducible rfl)); simp only [Act.put, List.setIfInBounds_toArray, List.set_cons_zero, List.set_cons_succ]
                refine wpAnyH_done (by kernel_rfl) ?_ _
                go_wp2
                go_ret
                exact ⟨by rw [HF.out]; rfl, HWd2.out⟩
end Go.Proofs.YtpcjmicciccihaaDoor

/- The document's constants: roots, primes. -/
namespace Go.Proofs.YtpcjmicciccihaaDoor
set_option maxRecDepth 100000
open Go.RowKit

def rootR (p : Nat) : Nat → Nat → Nat
  | x, 0 => x
  | x, m + 1 => if p * 79228162514264337593543950336 < (x + 2 ^ m) * (x + 2 ^ m) * (x + 2 ^ m) then rootR p x m else rootR p (x + 2 ^ m) m
def rootF (p : Nat) : UInt32 := UInt32.ofNat (rootR p 0 35)

set_option maxHeartbeats 4000000 in
theorem root_any (w : World) (p : Nat) (hp : p < 18446744073709551616) : Calls Tryd.prog 23 #[.int .u64 (p : Int)] w fun e w' => e = .returned (WV (rootF p)) ∧ Below w.heap.size w w' := by
  obtain ⟨R, hR⟩ : ∃ R, R = rootR p 0 35 := ⟨_, rfl⟩
  have HR0 : Hid (rootR p 0 35 = R) := Lib.hid hR.symm
  have HF : Hid (WV (rootF p) = .int .u32 ((R : Int) % 4294967296)) := Lib.hid (by
    unfold WV rootF
    rw [UInt32.toNat_ofNat', ← hR]
    simp)
  clear hR
  go_enter Tryd.func23, Tryd.ntmps23
  go_wp2_with fail
  go_loopw [3, 4] (fun x i wr => ∃ (j z : Nat) (I : Int), j ≤ 35 ∧ x = .int .u64 (z : Int) ∧ i = .int .i64 I ∧ I = (j : Int) - 1 ∧ z + 2 ^ j ≤ 34359738368 ∧ Hid (rootR p z j = R) ∧ Hid (Below w.heap.size w wr)) (fun _ i _ => (intOf i + 1).toNat)
  case atStart => exact ⟨35, 0, 34, by omega, rfl, rfl, by omega, by decide, HR0, Lib.hid (Below.refl _ _)⟩
  case round =>
    obtain ⟨j, z, I, hj, rfl, rfl, hI, hz, HR, HW⟩ := hrel
    rcases j with _ | m
    · have hIm : I = -1 := by omega
      subst hIm
      have HE : Hid (z = R) := Lib.hid HR.out
      have hzb : z ≤ 34359738368 := by omega
      clear hI hz
      go_wp2
      go_ret
      exact ⟨by rw [HF.out, ← HE.out]; rfl, HW.out⟩
    · obtain rfl : I = (m : Int) := by omega
      obtain ⟨q, hq⟩ : ∃ q, q = 2 ^ m := ⟨_, rfl⟩
      have hq2 : 2 ^ (m + 1) = q + q := by rw [hq, Nat.pow_succ]; omega
      rw [hq2] at hz
      have hqI : (2 : Int) ^ m = (q : Int) := by rw [hq]; simp
      have hmI : (m : Int) < 64 := by omega
      have hwI : IntKind.u64.wrap (m : Int) = (m : Int) := by rw [IntKind.wrap_u64]; omega
      have HQ := Lib.hid hq
      have hm35 : m < 35 := by omega
      clear hI hq hq2 hj
      go_wp2_with fail
      rw [show (z : Int) + (q : Int) = ((z + q : Nat) : Int) by omega]
      refine (greater_any wr (z + q) p (by omega) hp).mono ?_
      rintro e w1 ⟨rfl, hb1⟩
      have HW1 := Lib.hid (HW.out.trans (hb1.mono HW.out.size))
      have hR2 := HR.out
      unfold rootR at hR2
      rw [← HQ.out] at hR2
      clear hb1
      by_cases hg : p * 79228162514264337593543950336 < (z + q) * (z + q) * (z + q)
      · rw [if_pos hg] at hR2
        have HR2 := Lib.hid hR2
        rw [decide_eq_true hg]
        clear hg hR2
        go_wp2
        exact ⟨⟨m, z, (m : Int) - 1, by omega, rfl, rfl, rfl, by rw [← HQ.out]; omega, HR2, HW1⟩, by simp only [intOf]; omega⟩
      · rw [if_neg hg] at hR2
        have HR2 := Lib.hid hR2
        rw [decide_eq_false hg]
        clear hg hR2
        go_wp2
        exact ⟨⟨m, z + q, (m : Int) - 1, by omega, by simp, rfl, rfl, by rw [← HQ.out]; omega, HR2, HW1⟩, by simp only [intOf]; omega⟩

/-- Is p prime, by the primes ahead? -/
def primeB (ps : List Nat) (p : Nat) : Bool := ps.all fun q => decide (p % q ≠ 0)
/-- The primes from 2 on, k numbers asked. -/
def primesN : Nat → List Nat
  | 0 => []
  | k + 1 => if primeB (primesN k) (k + 2) then primesN k ++ [k + 2] else primesN k
theorem primes_few : ∀ k, k < 310 → (primesN k).length < 64 := by decide +kernel
theorem primes_64 : (primesN 310).length = 64 := by decide +kernel
theorem primes_pos : ∀ q ∈ primesN 310, 0 < q := by decide +kernel
theorem primes_lt : ∀ q ∈ primesN 310, q < 400 := by decide +kernel
theorem keys_eq : (primesN 310).map rootF = rootsL := by decide +kernel
end Go.Proofs.YtpcjmicciccihaaDoor
