/- What is found of records that were laid one behind the other, as plain data. -/
import Derived.Test.YtidcgobnhfganaaIc
import Derived.Test.YtidcgobnhfganaaHl
namespace Go.Proofs.Ytidcgobnhfganaa
open Go.RowKit

/-- A record that may be laid, as plain data. -/
structure RN where
  k : Nat
  t : Nat
  c : Nat
  key : List UInt8
  blob : List UInt8
def RN.may (r : RN) : Prop := mayB (r.k : Int) (r.t : Int) (r.key.length : Int) (r.blob.length : Int) (r.c : Int) = true ∧ r.t ≤ 4294967295
/-- Its bytes, whole. -/
def RN.bytes (r : RN) : List UInt8 := recB r.k r.t r.c r.key r.blob ++ [0]
def RN.fd (r : RN) (pl : Nat) : FD := ⟨pl, r.k, r.t, r.key, r.blob, r.c⟩
theorem RN.len (r : RN) : r.bytes.length = 16 + r.key.length + r.blob.length := by
  simp only [RN.bytes, List.length_append, recB_len, List.length_cons, List.length_nil]
  omega
def laid (rs : List RN) : List UInt8 := rs.flatMap RN.bytes
def fds : Nat → List RN → List FD
  | _, [] => []
  | pl, r :: rs => r.fd pl :: fds (pl + r.bytes.length) rs

theorem laid_cons (r : RN) (rs : List RN) : laid (r :: rs) = r.bytes ++ laid rs := by simp [laid]
theorem laid_append (rs qs : List RN) : laid (rs ++ qs) = laid rs ++ laid qs := by simp [laid]
theorem fds_append : ∀ (rs qs : List RN) (pl : Nat), fds pl (rs ++ qs) = fds pl rs ++ fds (pl + (laid rs).length) qs
  | [], qs, pl => rfl
  | r :: rs, qs, pl => by
    rw [List.cons_append, fds, fds, fds_append rs qs, laid_cons, List.length_append, List.cons_append, Nat.add_assoc]

theorem runs_recs {xs : List UInt8} {en : Nat} (hE : IsEnd xs en) : ∀ (rs : List RN) (pl : Nat) (cl : Bool) (tail : List UInt8) (l : List FD) (to : Nat) (c : Bool), (∀ r ∈ rs, r.may) → xs.drop pl = laid rs ++ tail →
    Runs xs en (pl + (laid rs).length) cl l to c → Runs xs en pl cl (fds pl rs ++ l) to c
  | [], pl, cl, tail, l, to, c, _, _, h => h
  | r :: rs, pl, cl, tail, l, to, c, hmay, hx, h => by
    have hr := hmay r (by simp)
    have hx2 : xs.drop pl = recB r.k r.t r.c r.key r.blob ++ 0 :: (laid rs ++ tail) := by
      rw [hx, laid_cons, RN.bytes]
      simp only [List.append_assoc, List.cons_append, List.nil_append]
    have ho := out_made r.k r.t r.c r.key r.blob 0 (laid rs ++ tail) hr.1 hr.2
    rw [← hx2] at ho
    have hlen := congrArg List.length hx2
    rw [List.length_drop, List.length_append, recB_len, List.length_cons] at hlen
    have h0 : xs[pl + (15 + r.key.length + r.blob.length)]? = some 0 := by
      rw [← List.getElem?_drop, hx2, List.getElem?_append_right (by rw [recB_len]; omega), recB_len]
      simp
    have hlt : pl + (15 + r.key.length + r.blob.length) < en := by
      rcases Nat.lt_or_ge (pl + (15 + r.key.length + r.blob.length)) en with h1 | h1
      · exact h1
      · have h2 := hE.blank _ h1 (by omega)
        rw [h0] at h2
        cases h2
    have hsz : pl + (out (xs.drop pl)).size = pl + r.bytes.length := by rw [ho, RN.len]; simp only; omega
    have hrest : xs.drop (pl + r.bytes.length) = laid rs ++ tail := by
      rw [← List.drop_drop, hx, laid_cons, List.append_assoc, List.drop_left]
    have hgo := runs_recs hE rs (pl + r.bytes.length) cl tail l to c (fun q hq => hmay q (by simp [hq])) hrest (by
      rw [laid_cons, List.length_append, ← Nat.add_assoc] at h
      exact h)
    have hw : (out (xs.drop pl)).whole = true := by rw [ho]; rfl
    have he : (out (xs.drop pl)).e = 0 := by rw [ho]
    have hfd : fdOf pl (out (xs.drop pl)) = r.fd pl := by rw [ho]; rfl
    have := Runs.go (xs := xs) (en := en) pl cl (fds (pl + r.bytes.length) rs ++ l) to c (by omega) he (by rw [hsz, hw]; simpa using hgo)
    rw [hw, if_pos rfl, hfd] at this
    exact this

theorem end_le {xs : List UInt8} {en Q : Nat} (hE : IsEnd xs en) (h : ∀ j, Q ≤ j → j < xs.length → xs[j]? = some 255) : en ≤ Q := by
  rcases Nat.lt_or_ge Q en with h1 | h1
  · have hl := hE.le
    exact absurd rfl (hE.last (by omega) 255 (h (en - 1) (by omega) (by omega)))
  · exact h1

/-- Of records that were laid one behind the other, with nothing but 255 behind them. -/
theorem runs_whole (h12 : List UInt8) (rs : List RN) (m en : Nat) (hl : h12.length = 12) (hmay : ∀ r ∈ rs, r.may) (hE : IsEnd (h12 ++ (laid rs ++ List.replicate m 255)) en) :
    Runs (h12 ++ (laid rs ++ List.replicate m 255)) en 12 false (fds 12 rs) (12 + (laid rs).length) false := by
  have hd : (h12 ++ (laid rs ++ List.replicate m 255)).drop 12 = laid rs ++ List.replicate m 255 := by rw [← hl, List.drop_left]
  have h := runs_recs hE rs 12 false (List.replicate m 255) [] (12 + (laid rs).length) false hmay hd (.stop _ _ (end_le hE (fun j h1 h2 => by
    rw [List.length_append, List.length_append, List.length_replicate, hl] at h2
    rw [List.getElem?_append_right (by omega), List.getElem?_append_right (by omega), hl, List.getElem?_replicate, if_pos (by omega)])))
  rw [List.append_nil] at h
  exact h

end Go.Proofs.Ytidcgobnhfganaa
