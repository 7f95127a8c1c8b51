/- The walks over utf.add and the document's unit: a unit's bytes. -/
import Derived.Test.YtnhfmcijadficaaUb
import Derived.Test.YtnhfmcijadficaaRw
namespace Go.Proofs.Ytnhfmcijadficaa
set_option maxRecDepth 100000
open Go.RowKit

/-- Bytes that a call has put behind bytes of a row made since base. -/
def AddedB (base : Nat) (w w' : World) (k : Nat) (zs : List UInt8) (e : Ending) : Prop := (∃ u, e = .returned u ∧ w'.ownsRow base 5 1 u k (zs.map B8)) ∧ Below base w w'

theorem ByteSl.lit_vals (w : World) (xs : List UInt8) (n : Nat) (vs : Array Value) (hv : vs = cellsB xs) (hn : xs.length = n) (h : n ≤ 3) :
    ByteSl (w.alloc (.cells vs 5)) Empty (some ⟨w.heap.size, 0, none⟩) n n xs := by
  subst hv
  exact ByteSl.lit w _ xs n hn (fun h => h) (by unfold maxLen; omega)
theorem AddedB.mk_ {base : Nat} {w w1 w' : World} {v v' : Value} {k m : Nat} {zs ys : List UInt8} {L : List Value} (hL : L = (zs ++ ys).map B8) (hown : w1.ownsRow base 5 1 v k (zs.map B8)) (hb : Below base w w1) (hbase : base ≤ w1.heap.size)
    (h1 : w'.ownsRow base 5 1 v' (k + m) L) (hg : w1.grownBy w' v.ownBlock) : AddedB base w w' (k + m) (zs ++ ys) (.returned v') :=
  ⟨⟨v', rfl, hL ▸ h1⟩, below_grown hb hbase hg (fun q hq => (hown.lt q hq).1)⟩
theorem b8n (n : Nat) (h : n < 256) : Value.int .u8 (n : Int) = B8 (UInt8.ofNat n) := by unfold B8; rw [u8n _ h]

set_option maxHeartbeats 1000000 in
theorem add_any (base : Nat) (v : Value) (k : Nat) (zs : List UInt8) (u : Nat) (w : World) (hown : w.ownsRow base 5 1 v k (zs.map B8)) (hu : u < 65536) (hk : k ≤ 1000000) (hbase : base ≤ w.heap.size) :
    Calls Try.prog 16 #[v, .int .u16 (u : Int)] w fun e w' => AddedB base w w' (k + sizeU u) (zs ++ encU u) e := by
  have HO := Lib.hid hown
  have HB0 : Hid (∀ o, Below base w (w.alloc o)) := Lib.hid (fun o => (Below.refl _ _).alloc hbase o)
  clear hown
  by_cases h1 : 1 ≤ u ∧ u ≤ 127
  · have hs : sizeU u = 1 := by unfold sizeU; rw [if_pos h1]
    have he : encU u = [UInt8.ofNat u] := by unfold encU; rw [if_pos h1]
    have c := size_any u w hu
    rw [hs] at c
    rw [hs, he]
    have C := Lib.hid c
    have hvs : #[Value.int .u8 (u : Int)] = cellsB [UInt8.ofNat u] := by rw [b8n u (by omega)]; rfl
    have HL := Lib.hid (ByteSl.lit_vals w [UInt8.ofNat u] 1 _ hvs rfl (by omega))
    have HA := Lib.hid (own_alloc HO.out (.cells #[Value.int .u8 (u : Int)] 5))
    clear c hs he hvs
    go_enter Try.func16, Try.ntmps16
    go_wp2_with fail
    refine C.out.mono ?_
    rintro e1 w1 ⟨rfl, rfl⟩
    go_wp2_with (at_builtin; refine wpList_append_bytes rfl (.tmp 9) (.tmp 12) rfl base v rfl k zs HA.out (some ⟨w.heap.size, 0, none⟩) 1 1 [UInt8.ofNat u] Empty rfl HL.out (fun h => by cases h) (by omega) (by simp; omega) ?_)
    intro v' w1 hown1 hg1 _
    have HR := Lib.hid (AddedB.mk_ (ys := [UInt8.ofNat u]) (by simp) HA.out (HB0.out _) (by simp; omega) hown1 hg1)
    clear hown1 hg1
    go_wp2
    go_ret
    exact HR.out
  · by_cases h2 : u ≤ 2047
    · have hs : sizeU u = 2 := by unfold sizeU; rw [if_neg h1, if_pos h2]
      have he : encU u = [UInt8.ofNat (192 + u / 64), UInt8.ofNat (128 + u % 64)] := by unfold encU; rw [if_neg h1, if_pos h2]
      have c := size_any u w hu
      rw [hs] at c
      rw [hs, he]
      have C := Lib.hid c
      have c2 := more_any u w hu
      have eb : B8 (UInt8.ofNat (128 + u % 64)) = .int .u8 ((128 + u % 64 : Nat) : Int) := (b8n _ (by omega)).symm
      rw [eb] at c2
      obtain ⟨m, hm⟩ : ∃ m, m = 128 + u % 64 := ⟨_, rfl⟩
      rw [← hm] at c2 ⊢
      have hm2 : m < 256 := by omega
      have C2 := Lib.hid c2
      have hq : u / 64 < 32 := by omega
      obtain ⟨q, hqe⟩ : ∃ q, q = u / 64 := ⟨_, rfl⟩
      rw [← hqe] at hq ⊢
      have hvs : #[Value.int .u8 (192 + (q : Int)), Value.int .u8 (m : Int)] = cellsB [UInt8.ofNat (192 + q), UInt8.ofNat m] := by
        rw [show (192 + (q : Int)) = ((192 + q : Nat) : Int) by simp, b8n m hm2, b8n _ (by omega)]
        rfl
      have HL := Lib.hid (ByteSl.lit_vals w [UInt8.ofNat (192 + q), UInt8.ofNat m] 2 _ hvs rfl (by omega))
      have HA := Lib.hid (own_alloc HO.out (.cells #[Value.int .u8 (192 + (q : Int)), Value.int .u8 (m : Int)] 5))
      have hqi : (u : Int) / 64 = (q : Int) := by rw [hqe]; simp
      clear c c2 hs he eb hm hqe hvs
      go_enter Try.func16, Try.ntmps16
      go_wp2_with fail
      refine C.out.mono ?_
      rintro e1 w1 ⟨rfl, rfl⟩
      go_wp2_with fail
      refine C2.out.mono ?_
      rintro e1 w1 ⟨rfl, rfl⟩
      go_wp2_with (at_builtin; refine wpList_append_bytes rfl (.tmp 16) (.tmp 23) rfl base v rfl k zs HA.out (some ⟨w.heap.size, 0, none⟩) 2 2 [UInt8.ofNat (192 + q), UInt8.ofNat m] Empty rfl HL.out (fun h => by cases h) (by omega) (by simp; omega) ?_)
      intro v' w1 hown1 hg1 _
      have HR := Lib.hid (AddedB.mk_ (ys := [UInt8.ofNat (192 + q), UInt8.ofNat m]) (by simp) HA.out (HB0.out _) (by simp; omega) hown1 hg1)
      clear hown1 hg1
      go_wp2
      go_ret
      exact HR.out
    · have hs : sizeU u = 3 := by unfold sizeU; rw [if_neg h1, if_neg h2]
      have he : encU u = [UInt8.ofNat (224 + u / 4096), UInt8.ofNat (128 + u / 64 % 64), UInt8.ofNat (128 + u % 64)] := by unfold encU; rw [if_neg h1, if_neg h2]
      have c := size_any u w hu
      rw [hs] at c
      rw [hs, he]
      have C := Lib.hid c
      have c2 := more_any u w hu
      have eb : B8 (UInt8.ofNat (128 + u % 64)) = .int .u8 ((128 + u % 64 : Nat) : Int) := (b8n _ (by omega)).symm
      rw [eb] at c2
      have c3 := more_any (u / 64) w (by omega)
      have eb3 : B8 (UInt8.ofNat (128 + u / 64 % 64)) = .int .u8 ((128 + u / 64 % 64 : Nat) : Int) := (b8n _ (by omega)).symm
      rw [eb3] at c3
      obtain ⟨m, hm⟩ : ∃ m, m = 128 + u % 64 := ⟨_, rfl⟩
      rw [← hm] at c2 ⊢
      have hm2 : m < 256 := by omega
      obtain ⟨r, hr⟩ : ∃ r, r = 128 + u / 64 % 64 := ⟨_, rfl⟩
      rw [← hr] at c3 ⊢
      have hr2 : r < 256 := by omega
      have hz : u / 64 < 1024 := by omega
      obtain ⟨z, hze⟩ : ∃ z, z = u / 64 := ⟨_, rfl⟩
      rw [← hze] at hz c3
      have C2 := Lib.hid c2
      have C3 := Lib.hid c3
      have hq : u / 4096 < 16 := by omega
      obtain ⟨q, hqe⟩ : ∃ q, q = u / 4096 := ⟨_, rfl⟩
      rw [← hqe] at hq ⊢
      have hvs : #[Value.int .u8 (224 + (q : Int)), Value.int .u8 (r : Int), Value.int .u8 (m : Int)] = cellsB [UInt8.ofNat (224 + q), UInt8.ofNat r, UInt8.ofNat m] := by
        rw [show (224 + (q : Int)) = ((224 + q : Nat) : Int) by simp, b8n m hm2, b8n r hr2, b8n _ (by omega)]
        rfl
      have HL := Lib.hid (ByteSl.lit_vals w [UInt8.ofNat (224 + q), UInt8.ofNat r, UInt8.ofNat m] 3 _ hvs rfl (by omega))
      have HA := Lib.hid (own_alloc HO.out (.cells #[Value.int .u8 (224 + (q : Int)), Value.int .u8 (r : Int), Value.int .u8 (m : Int)] 5))
      have hqi : (u : Int) / 4096 = (q : Int) := by rw [hqe]; simp
      have hzi : (u : Int) / 64 = (z : Int) := by rw [hze]; simp
      clear c c2 c3 hs he eb eb3 hm hr hze hqe hvs
      go_enter Try.func16, Try.ntmps16
      go_wp2_with fail
      refine C.out.mono ?_
      rintro e1 w1 ⟨rfl, rfl⟩
      go_wp2_with fail
      refine C3.out.mono ?_
      rintro e1 w1 ⟨rfl, rfl⟩
      go_wp2_with fail
      refine C2.out.mono ?_
      rintro e1 w1 ⟨rfl, rfl⟩
      go_wp2_with (at_builtin; refine wpList_append_bytes rfl (.tmp 25) (.tmp 35) rfl base v rfl k zs HA.out (some ⟨w.heap.size, 0, none⟩) 3 3 [UInt8.ofNat (224 + q), UInt8.ofNat r, UInt8.ofNat m] Empty rfl HL.out (fun h => by cases h) (by omega) (by simp; omega) ?_)
      intro v' w1 hown1 hg1 _
      have HR := Lib.hid (AddedB.mk_ (ys := [UInt8.ofNat (224 + q), UInt8.ofNat r, UInt8.ofNat m]) (by simp) HA.out (HB0.out _) (by simp; omega) hown1 hg1)
      clear hown1 hg1
      go_wp2
      go_ret
      exact HR.out

/-- What the document's unit answers: a unit's bytes, in a block of their own. -/
theorem refUnit_any (u : Nat) (w : World) (hu : u < 65536) :
    Calls Try.prog 18 #[.int .u16 (u : Int)] w fun e w' => e = .returned (.slice (some ⟨w.heap.size, 0, none⟩) (sizeU u) (sizeU u)) ∧ w' = w.alloc (.cells (cellsB (encU u)) 5) := by
  by_cases h1 : 1 ≤ u ∧ u ≤ 127
  · have hs : sizeU u = 1 := by unfold sizeU; rw [if_pos h1]
    have he : encU u = [UInt8.ofNat u] := by unfold encU; rw [if_pos h1]
    have hvs : cellsB [UInt8.ofNat u] = #[Value.int .u8 (u : Int)] := by rw [b8n u (by omega)]; rfl
    rw [hs, he, hvs]
    have a1 : decide ((u : Int) ≥ 1) = true := by simp; omega
    have a2 : decide ((u : Int) ≤ 127) = true := by simp; omega
    clear hs he hvs
    go_enter Try.func18, Try.ntmps18
    go_wp2
    go_ret
    exact ⟨rfl, rfl⟩
  · by_cases h2 : u ≤ 2047
    · have hs : sizeU u = 2 := by unfold sizeU; rw [if_neg h1, if_pos h2]
      have he : encU u = [UInt8.ofNat (192 + u / 64), UInt8.ofNat (128 + u % 64)] := by unfold encU; rw [if_neg h1, if_pos h2]
      have hvs : cellsB [UInt8.ofNat (192 + u / 64), UInt8.ofNat (128 + u % 64)] = #[Value.int .u8 (192 + (u : Int) / 64), Value.int .u8 (128 + (u : Int) % 64)] := by
        have e1 : (192 + (u : Int) / 64) = ((192 + u / 64 : Nat) : Int) := by simp
        have e2 : (128 + (u : Int) % 64) = ((128 + u % 64 : Nat) : Int) := by simp
        rw [e1, e2, b8n _ (by omega), b8n _ (by omega)]
        rfl
      rw [hs, he, hvs]
      clear hs he hvs
      by_cases h0 : u = 0
      · subst h0
        go_enter Try.func18, Try.ntmps18
        go_wp2
        go_ret
        exact ⟨rfl, rfl⟩
      · have a1 : decide ((u : Int) ≥ 1) = true := by simp; omega
        have a2 : decide ((u : Int) ≤ 127) = false := by simp; omega
        go_enter Try.func18, Try.ntmps18
        go_wp2
        go_ret
        exact ⟨rfl, rfl⟩
    · have hs : sizeU u = 3 := by unfold sizeU; rw [if_neg h1, if_neg h2]
      have he : encU u = [UInt8.ofNat (224 + u / 4096), UInt8.ofNat (128 + u / 64 % 64), UInt8.ofNat (128 + u % 64)] := by unfold encU; rw [if_neg h1, if_neg h2]
      have hvs : cellsB [UInt8.ofNat (224 + u / 4096), UInt8.ofNat (128 + u / 64 % 64), UInt8.ofNat (128 + u % 64)] = #[Value.int .u8 (224 + (u : Int) / 4096), Value.int .u8 (128 + (u : Int) / 64 % 64), Value.int .u8 (128 + (u : Int) % 64)] := by
        have e1 : (224 + (u : Int) / 4096) = ((224 + u / 4096 : Nat) : Int) := by simp
        have e2 : (128 + (u : Int) % 64) = ((128 + u % 64 : Nat) : Int) := by simp
        have e3 : (128 + (u : Int) / 64 % 64) = ((128 + u / 64 % 64 : Nat) : Int) := by simp
        rw [e1, e2, e3, b8n _ (by omega), b8n _ (by omega), b8n _ (by omega)]
        rfl
      rw [hs, he, hvs]
      clear hs he hvs
      have a1 : decide ((u : Int) ≥ 1) = true := by simp; omega
      have a2 : decide ((u : Int) ≤ 127) = false := by simp; omega
      go_enter Try.func18, Try.ntmps18
      go_wp2
      go_ret
      exact ⟨rfl, rfl⟩

end Go.Proofs.Ytnhfmcijadficaa
