/- The walks over utf.Decode and the document's Decode. -/
import Derived.Test.YtinkjeifkjfkgaaUf
namespace Go.Proofs.Ytinkjeifkjfkgaa
set_option maxRecDepth 100000
open Go.RowKit

theorem Try.infoU16 : (Try.prog.info? 73).map (fun i => (i.zero, i.size, i.bytes)) = some (some (.int .u16 0), 1, 2) := by kernel_rfl

/-- The cells of a row of 16-bit numbers. -/
def row16 (l : List Nat) : Array Value := (l.map fun (u : Nat) => Value.int .u16 (u : Int)).toArray
theorem row16_set (l : List Nat) (k u : Nat) : (row16 l).setIfInBounds k (.int .u16 (u : Int)) = row16 (l.set k u) := by
  unfold row16
  simp [List.map_set]
theorem row16_size (l : List Nat) : (row16 l).size = l.length := by simp [row16]
theorem row16_get (l : List Nat) (i : Nat) : (row16 l)[i]? = l[i]?.map fun (u : Nat) => Value.int .u16 (u : Int) := by simp [row16]
theorem row16_flat (l : List Nat) : l.flatMap cells16 = l.map fun (u : Nat) => Value.int .u16 (u : Int) := by
  induction l with
  | nil => rfl
  | cons u l ih => simp [cells16, ih]
theorem made16 (n : Nat) : madeCells #[.int .u16 0] n = row16 (List.replicate n 0) := by
  apply Array.ext_getElem?
  intro i
  rw [row16_get, List.getElem?_replicate]
  by_cases h : i < n
  · simp [madeCells, h, Nat.mod_one]
  · simp [madeCells, h]
theorem run_make16 (n : Nat) (hm : n ≤ 1000000) (W : World) :
    (Instr.makeSlice 61 (.int .i64 (n : Int)) (.int .i64 (n : Int))).run Try.prog W = .ok (.slice (some ⟨W.heap.size, 0, none⟩) n n) (W.alloc (.cells (row16 (List.replicate n 0)) 73)) := by
  obtain ⟨i0, hi, hz0, hz1, hz2⟩ := info_parts Try.infoU16
  have hr := run_make (P := Try.prog) W 61 73 i0 (.int .u16 0) Try.underlying61 hi hz0 .i64 .i64 n n (by omega) (by omega) (by rw [hz2]; omega) (by omega)
  simp only [Int.toNat_natCast, hz1, Nat.mul_one] at hr
  rw [← made16]
  exact hr
theorem T16.of_blk {w : World} {g n : Nat} {l : List Nat} (h : Blk w g 73 (row16 l)) (hl : l.length = n) (hm : n ≤ maxLen) : T16 w (some ⟨g, 0, none⟩) n n l :=
  RowSl.of_blk (fun _ => rfl) h hl (Nat.le_refl _) hm (fun j hj => by rw [row16_flat, row16_get, List.getElem?_map]) (fun h => h)

/-- What Decode answers. -/
def Decoded (w w' : World) (r : Option (List Nat)) (e : Ending) : Prop := (match r with
  | some l => ∃ A cap, e = .returned (.tuple #[.slice A l.length cap, .int .i64 0]) ∧ T16 w' A l.length cap l
  | none => e = .returned (.tuple #[.slice none 0 0, .int .i64 8])) ∧ Below w.heap.size w w'

theorem decR_cons {ys : List UInt8} {u : Nat} {t : List Nat} (h : DecR ys (some (u :: t))) : (unitF ys).1 = u ∧ (unitF ys).2 ≠ 0 ∧ DecR (ys.drop (unitF ys).2) (some t) ∧ 0 < ys.length := by
  generalize hr : some (u :: t) = r at h
  cases h with
  | nil => cases hr
  | bad hb h => cases hr
  | @go _ r2 h h2 =>
    cases r2 with
    | none => cases hr
    | some l2 =>
      have hr : u :: t = (unitF ys).1 :: l2 := by simpa using hr
      obtain ⟨e1, e2⟩ := List.cons.inj hr
      subst e2
      refine ⟨e1.symm, h, h2, ?_⟩
      have := unitF_le ys
      omega

theorem set_zero (l : List Nat) (n k u : Nat) (hl : l.length = n) (h : l[k]? = some u) : (l.take k ++ List.replicate (n - k) 0).set k u = l.take (k + 1) ++ List.replicate (n - (k + 1)) 0 := by
  have hk : k < l.length := (List.getElem?_eq_some_iff.1 h).1
  rw [take_one l k u h, show n - k = (n - (k + 1)) + 1 by omega, List.replicate_succ, List.set_append_right _ _ (by rw [List.length_take]; omega)]
  simp [List.length_take, Nat.min_eq_left (Nat.le_of_lt hk)]


/-- What the document's Decode makes of the bytes at one place: the number, and how many bytes. -/
def refV (ys : List UInt8) : Int × Nat := match ys with
  | [] => (0, 1)
  | x :: t => if 192 ≤ x.toNat ∧ x.toNat < 224 ∧ 1 ≤ t.length then (((x.toNat : Int) - 192) * 64 + ((t.getD 0 0).toNat : Int) - 128, 2)
    else if 224 ≤ x.toNat ∧ x.toNat < 240 ∧ 2 ≤ t.length then (((x.toNat : Int) - 224) * 4096 + (((t.getD 0 0).toNat : Int) - 128) * 64 + ((t.getD 1 0).toNat : Int) - 128, 3)
    else ((x.toNat : Int), 1)
/-- Is it a unit? -/
def refOk (ys : List UInt8) : Prop := 0 ≤ (refV ys).1 ∧ (refV ys).1 ≤ 65535 ∧ encU (refV ys).1.toNat = ys.take (refV ys).2

theorem refV_len (ys : List UInt8) (h : 0 < ys.length) : 1 ≤ (refV ys).2 ∧ (refV ys).2 ≤ ys.length ∧ (refV ys).2 ≤ 3 := by
  match ys with
  | [] => simp at h
  | x :: t =>
    unfold refV
    simp only
    split
    · rename_i h1
      simp only [List.length_cons]
      omega
    · split
      · rename_i h1
        simp only [List.length_cons]
        omega
      · simp only [List.length_cons]
        omega

theorem refOk_unit (ys : List UInt8) (hl : 0 < ys.length) (h : refOk ys) : unitF ys = ((refV ys).1.toNat, (refV ys).2) := by
  obtain ⟨h0, h1, h2⟩ := h
  have hv := refV_len ys hl
  have e : ys = encU (refV ys).1.toNat ++ ys.drop (refV ys).2 := by rw [h2, List.take_append_drop]
  have hn : (refV ys).2 = sizeU (refV ys).1.toNat := by
    have := congrArg List.length h2
    rw [encU_len, List.length_take] at this
    omega
  have hu := unitF_enc (refV ys).1.toNat (by omega) (ys.drop (refV ys).2)
  rw [← e] at hu
  rw [hu, ← hn]

theorem unit_refOk (ys : List UInt8) (h : (unitF ys).2 ≠ 0) : refOk ys := by
  obtain ⟨hu, hs, he⟩ := unitF_some ys h
  obtain ⟨u, hue⟩ : ∃ u, u = (unitF ys).1 := ⟨_, rfl⟩
  rw [← hue] at hu hs he
  have key : refV ys = ((u : Int), sizeU u) := by
    rw [hs] at he
    rw [he]
    generalize ys.drop (sizeU u) = r
    unfold encU sizeU
    by_cases h1 : 1 ≤ u ∧ u ≤ 127
    · rw [if_pos h1, if_pos h1]
      show refV (_ :: r) = _
      unfold refV
      simp only [u8n u (by omega)]
      rw [if_neg (by omega), if_neg (by omega)]
    · rw [if_neg h1, if_neg h1]
      by_cases h2 : u ≤ 2047
      · rw [if_pos h2, if_pos h2]
        show refV (_ :: _ :: r) = _
        unfold refV
        simp only [u8n (192 + u / 64) (by omega), List.getD_cons_zero, u8n (128 + u % 64) (by omega), List.length_cons]
        rw [if_pos (by omega)]
        congr 1
        omega
      · rw [if_neg h2, if_neg h2]
        show refV (_ :: _ :: _ :: r) = _
        unfold refV
        simp only [u8n (224 + u / 4096) (by omega), List.getD_cons_zero, List.getD_cons_succ, u8n (128 + u / 64 % 64) (by omega), u8n (128 + u % 64) (by omega), List.length_cons]
        rw [if_neg (by omega), if_pos (by omega)]
        congr 1
        omega
  unfold refOk
  rw [key]
  refine ⟨by show (0:Int) ≤ (u : Int); omega, by show (u : Int) ≤ 65535; omega, ?_⟩
  show encU ((u : Int).toNat) = ys.take (sizeU u)
  rw [Int.toNat_natCast]
  have h3 := congrArg (List.take (sizeU u)) he
  rw [hs] at h3
  rw [h3, ← encU_len, List.take_left]

end Go.Proofs.Ytinkjeifkjfkgaa
