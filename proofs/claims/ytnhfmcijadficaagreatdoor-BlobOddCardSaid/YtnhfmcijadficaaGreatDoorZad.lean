/- The walks over Read, Erases, Geometry, Reset, Fuse, sector, Erase. -/
import Derived.Test.YtnhfmcijadficaaGreatDoorZac
import Derived.Maps.AppendAt
import Derived.OwnWalk
import Derived.Laws.ResultCell
namespace Go.Proofs.YtnhfmcijadficaaGreatDoor
set_option maxRecDepth 100000
open Go.RowKit

/-! ### Read -/
theorem read_nil (a n : Int) (w : World) :
    Calls Tryz.prog 108 #[.pointer none, .int .i64 a, .int .i64 n] w fun e w' => e = .returned (.tuple #[.slice none 0 0, .int .i64 5]) ∧ w = w' := by
  go_enter Tryz.func108, Tryz.ntmps108
  go_wp2_with fail
  refine (span_nil _ _ _).mono ?_
  rintro e1 w1 ⟨rfl, rfl⟩
  go_wp2
  go_ret2
  exact ⟨rfl, rfl⟩

theorem read_down (p : Nat) (a n : Int) (w : World) (h5 : w.cell? ⟨p, 5, none⟩ = some (.bool false)) :
    Calls Tryz.prog 108 #[.pointer (some ⟨p, 0, none⟩), .int .i64 a, .int .i64 n] w fun e w' => e = .returned (.tuple #[.slice none 0 0, .int .i64 5]) ∧ w = w' := by
  go_enter Tryz.func108, Tryz.ntmps108
  go_wp2_with fail
  refine (span_down _ _ _ _ h5).mono ?_
  rintro e1 w1 ⟨rfl, rfl⟩
  go_wp2
  go_ret2
  exact ⟨rfl, rfl⟩

theorem read_out (p c e : Nat) (fl : Fl) (a n : Int) (w : World) (hf : FlashAt w p c e fl) (hu : fl.up = true) (a2 : a ≤ 9223372036854775807) (n2 : n ≤ 9223372036854775807)
    (h : a < 0 ∨ n < 0 ∨ ((fl.S * fl.Z : Nat) : Int) < a + n) :
    Calls Tryz.prog 108 #[.pointer (some ⟨p, 0, none⟩), .int .i64 a, .int .i64 n] w fun e w' => e = .returned (.tuple #[.slice none 0 0, .int .i64 2]) ∧ w = w' := by
  have hsz := hf.ok.sz
  have hs := span_out p c (fl.S * fl.Z) a n w (by rw [hf.hd.cell]; simp [Fl.hdr, hu]) (by rw [hf.hd.cell]; simp [Fl.hdr]) (by omega) a2 n2 h
  have Hs := Lib.hid hs
  clear hs hf hu h
  go_enter Tryz.func108, Tryz.ntmps108
  go_wp2_with fail
  refine Hs.out.mono ?_
  rintro e1 w1 ⟨rfl, rfl⟩
  go_wp2
  go_ret2
  exact ⟨rfl, rfl⟩

/-- What is read is new memory. -/
def ReadOk (w w' : World) (n : Nat) (xs : List UInt8) (e : Ending) : Prop :=
  ∃ v, e = .returned (.tuple #[v, .int .i64 0]) ∧ w'.ownsRow w.heap.size 5 1 v n (xs.map B8) ∧ Below w.heap.size w w'

set_option maxHeartbeats 1000000 in
theorem read_in (p c e at_ n : Nat) (fl : Fl) (w : World) (hf : FlashAt w p c e fl) (hu : fl.up = true) (h : at_ + n ≤ fl.S * fl.Z) :
    Calls Tryz.prog 108 #[.pointer (some ⟨p, 0, none⟩), .int .i64 (at_ : Int), .int .i64 (n : Int)] w fun e w' => ReadOk w w' n ((fl.bs.drop at_).take n) e := by
  have hsz := hf.ok.sz
  have hs := span_in p c (fl.S * fl.Z) at_ n w (by rw [hf.hd.cell]; simp [Fl.hdr, hu]) (by rw [hf.hd.cell]; simp [Fl.hdr]) (by omega) h
  obtain ⟨o, ho⟩ : ∃ o, o = if n = 0 then 0 else at_ := ⟨_, rfl⟩
  rw [← ho] at hs
  have Hs := Lib.hid hs
  have Ho := Lib.hid ho
  clear hs ho hu
  obtain ⟨i0, hi, hz0, hz1, hz2⟩ := info_parts Tryz.infoU8
  have hlen : (((fl.bs.drop at_).take n).map B8).length = n * 1 := by
    simp [hf.ok.bl]; omega
  have hcells : ∀ j u, (((fl.bs.drop at_).take n).map B8)[j]? = some u → w.cell? ((⟨c, o, none⟩ : Addr).add j) = some u := by
    intro j u hj
    have hjn : j < n := by
      have := (List.getElem?_eq_some_iff.1 hj).1
      omega
    have ho : o = at_ := by rw [Ho.out, if_neg (by omega)]
    subst ho
    have ha : (⟨c, o, none⟩ : Addr).add j = ⟨c, o + j, none⟩ := by unfold Addr.add; split <;> simp_all
    rw [ha, hf.ce.cell]
    rw [List.getElem?_map, List.getElem?_take, if_pos hjn, List.getElem?_drop] at hj
    simpa using hj
  have h1 : ∀ u ∈ (((fl.bs.drop at_).take n).map B8), u.oneCell' = true := by
    intro u hm
    obtain ⟨b, _, rfl⟩ := List.mem_map.1 hm
    rfl
  have hnm : n ≤ 4194304 := by omega
  obtain ⟨news, hnews⟩ : ∃ l, l = ((fl.bs.drop at_).take n).map B8 := ⟨_, rfl⟩
  rw [← hnews] at hlen hcells h1
  have Hnews := Lib.hid hnews
  have Hl := Lib.hid hlen
  have Hc := Lib.hid hcells
  have H1 := Lib.hid h1
  have Hi := Lib.hid hi
  have Hz0 := Lib.hid hz0
  have Hz1 := Lib.hid hz1
  have Hz2 := Lib.hid hz2
  clear hlen hcells h1 hi hz0 hz1 hz2 hf hnews
  go_enter Tryz.func108, Tryz.ntmps108
  go_wp2_with fail
  refine Hs.out.mono ?_
  rintro e1 w1 ⟨rfl, rfl⟩
  go_wp2_with (at_builtin; refine wpList_append_own_at _ rfl (.const (.slice none 0 0)) (.tmp 20) 22 rfl w.heap.size 5 i0 (.int .u8 0) 1 1 Tryz.underlying22 Hi.out Hz0.out Hz1.out Hz2.out rfl (by decide) (.slice none 0 0) 0 [] rfl (World.ownsRow_nil _ _ _ _) ⟨c, o, none⟩ n n news rfl Hl.out Hc.out H1.out ?c3 ?c4 ?c5 ?_)
  case c3 => unfold maxLen; omega
  case c4 => omega
  case c5 => exact Nat.le_refl _
  intro v1 w1 hown hg _ hat
  go_wp2
  go_ret2
  rw [Hnews.out] at hown
  exact ⟨v1, rfl, hown, (Below.refl _ _).grown hg (Nat.le_refl _) (by intro k hk; simp [Value.ownBlock] at hk)⟩

/-! ### Erases, Geometry, Reset, Fuse -/
theorem erases_nil (k : Int) (w : World) :
    Calls Tryz.prog 111 #[.pointer none, .int .i64 k] w fun e w' => e = .returned (.int .i64 0) ∧ w = w' := by
  go_enter Tryz.func111, Tryz.ntmps111
  go_wp2_with fail
  refine (has_nil _ _).mono ?_
  rintro e1 w1 ⟨rfl, rfl⟩
  go_wp2
  go_ret
  exact ⟨rfl, rfl⟩

theorem erases_out (p c e : Nat) (fl : Fl) (k : Int) (w : World) (hf : FlashAt w p c e fl) (h : k < 0 ∨ (fl.S : Int) ≤ k) :
    Calls Tryz.prog 111 #[.pointer (some ⟨p, 0, none⟩), .int .i64 k] w fun e w' => e = .returned (.int .i64 0) ∧ w = w' := by
  have hh := has_any p e fl.S k w (by rw [hf.hd.cell]; simp [Fl.hdr])
  have hb : (decide (0 ≤ k) && decide (k < (fl.S : Int))) = false := by simp; omega
  rw [hb] at hh
  have Hh := Lib.hid hh
  clear hh hf hb h
  go_enter Tryz.func111, Tryz.ntmps111
  go_wp2_with fail
  refine Hh.out.mono ?_
  rintro e1 w1 ⟨rfl, rfl⟩
  go_wp2
  go_ret
  exact ⟨rfl, rfl⟩

theorem erases_in (p c e k m : Nat) (fl : Fl) (w : World) (hf : FlashAt w p c e fl) (h : fl.er[k]? = some m) :
    Calls Tryz.prog 111 #[.pointer (some ⟨p, 0, none⟩), .int .i64 (k : Int)] w fun e w' => e = .returned (.int .i64 (m : Int)) ∧ w = w' := by
  have hk : k < fl.S := by have := (List.getElem?_eq_some_iff.1 h).1; rw [hf.ok.el] at this; exact this
  have hh := has_any p e fl.S k w (by rw [hf.hd.cell]; simp [Fl.hdr])
  have hb : (decide (0 ≤ (k : Int)) && decide ((k : Int) < (fl.S : Int))) = true := by simp; omega
  rw [hb] at hh
  have Hh := Lib.hid hh
  have h4 : w.cell? ⟨p, 4, none⟩ = some (.slice (some ⟨e, 0, none⟩) fl.S fl.S) := by rw [hf.hd.cell]; simp [Fl.hdr]
  have hc : w.cell? ⟨e, k, none⟩ = some (.int .i64 (m : Int)) := by rw [hf.er.cell]; simp [h]
  have hs := hf.ok.s2
  clear hh hf hb h
  go_enter Tryz.func111, Tryz.ntmps111
  go_wp2_with fail
  refine Hh.out.mono ?_
  rintro e1 w1 ⟨rfl, rfl⟩
  go_wp2
  go_ret
  exact ⟨rfl, rfl⟩

theorem geometry_nil (w : World) :
    Calls Tryz.prog 39 #[.pointer none] w fun e w' => e = .returned (.agg #[.int .i64 0, .int .i64 0, .int .i64 0]) ∧ Below w.heap.size w w' := by
  go_enter Tryz.func39, Tryz.ntmps39
  go_wp2
  refine bodyPost_ret (v := .agg #[.int .i64 0, .int .i64 0, .int .i64 0]) (by simp [results, Tryz.results39, go_sem]) rfl ⟨rfl, ?_⟩
  exact (Below.refl _ _).alloc (Nat.le_refl _) _

theorem geometry_any (p c e : Nat) (fl : Fl) (w : World) (hf : FlashAt w p c e fl) :
    Calls Tryz.prog 39 #[.pointer (some ⟨p, 0, none⟩)] w fun e w' => e = .returned (.agg #[.int .i64 (fl.S : Int), .int .i64 (fl.Z : Int), .int .i64 (fl.L : Int)]) ∧ Below w.heap.size w w' := by
  have h0 : w.cell? ⟨p, 0, none⟩ = some (.int .i64 (fl.S : Int)) := by rw [hf.hd.cell]; simp [Fl.hdr]
  have h1 : w.cell? ⟨p, 1, none⟩ = some (.int .i64 (fl.Z : Int)) := by rw [hf.hd.cell]; simp [Fl.hdr]
  have h2 : w.cell? ⟨p, 2, none⟩ = some (.int .i64 (fl.L : Int)) := by rw [hf.hd.cell]; simp [Fl.hdr]
  have hp := hf.hd.lt
  clear hf
  go_enter Tryz.func39, Tryz.ntmps39
  go_wp2
  refine bodyPost_ret (v := .agg #[.int .i64 (fl.S : Int), .int .i64 (fl.Z : Int), .int .i64 (fl.L : Int)]) (by simp [results, Tryz.results39, go_sem]) rfl ⟨rfl, ?_⟩
  exact (Below.refl _ _).alloc (Nat.le_refl _) _

theorem reset_nil (w : World) :
    Calls Tryz.prog 24 #[.pointer none] w fun e w' => e = .returned (.tuple #[]) ∧ w = w' := by
  go_enter Tryz.func24, Tryz.ntmps24
  go_wp2
  go_end0
  exact ⟨rfl, rfl⟩

def Fl.reset (fl : Fl) : Fl := { fl with up := true, fuse := -1, keep := 0, mask := 0 }

theorem reset_any (p c e : Nat) (fl : Fl) (w : World) (hf : FlashAt w p c e fl) :
    Calls Tryz.prog 24 #[.pointer (some ⟨p, 0, none⟩)] w fun e1 w' => e1 = .returned (.tuple #[]) ∧ FlashAt w' p c e fl.reset ∧ Only (· = p) w w' := by
  have hh := hf.hd.cell
  have h5 : w.cell? ⟨p, 5, none⟩ = some (.bool fl.up) := by rw [hh]; simp [Fl.hdr]
  have h6 : w.cell? ⟨p, 6, none⟩ = some (.int .i64 fl.fuse) := by rw [hh]; simp [Fl.hdr]
  have h7 : w.cell? ⟨p, 7, none⟩ = some (.int .i64 fl.keep) := by rw [hh]; simp [Fl.hdr]
  have h8 : w.cell? ⟨p, 8, none⟩ = some (.int .u8 (fl.mask.toNat : Int)) := by rw [hh]; simp [Fl.hdr, B8]
  have f5 := hf.hd.frozen 5
  have f6 := hf.hd.frozen 6
  have f7 := hf.hd.frozen 7
  have f8 := hf.hd.frozen 8
  have Hf := Lib.hid hf
  clear hf hh
  go_enter Tryz.func24, Tryz.ntmps24
  go_wp2
  go_end0
  have hf := Hf.out
  refine ⟨rfl, ⟨⟨hf.ok.s1, hf.ok.s2, hf.ok.z1, hf.ok.z2, hf.ok.l1, hf.ok.l2, hf.ok.bl, hf.ok.el, hf.ok.eb, by simp [Fl.reset], by simp [Fl.reset], by simp [Fl.reset], by simp [Fl.reset]⟩, ?_, ?_, ?_⟩, ?_⟩
  · have h2 := (((hf.hd.set_ 5 (.bool true)).set_ 6 (.int .i64 (-1))).set_ 7 (.int .i64 0)).set_ 8 (.int .u8 0)
    exact h2
  · have hp : c ≠ p := hf.pc.symm
    exact (((hf.ce.far (p := ⟨p, 5, none⟩) hp _).far (p := ⟨p, 6, none⟩) hp _).far (p := ⟨p, 7, none⟩) hp _).far (p := ⟨p, 8, none⟩) hp _
  · have hp : e ≠ p := hf.pe.symm
    exact (((hf.er.far (p := ⟨p, 5, none⟩) hp _).far (p := ⟨p, 6, none⟩) hp _).far (p := ⟨p, 7, none⟩) hp _).far (p := ⟨p, 8, none⟩) hp _
  · exact ((((Only.refl (· = p) w).setCell (p := ⟨p, 5, none⟩) (Or.inl rfl) _).setCell (p := ⟨p, 6, none⟩) (Or.inl rfl) _).setCell (p := ⟨p, 7, none⟩) (Or.inl rfl) _).setCell (p := ⟨p, 8, none⟩) (Or.inl rfl) _

theorem fuse_nil (n k : Int) (m : UInt8) (w : World) :
    Calls Tryz.prog 22 #[.pointer none, .int .i64 n, .agg #[.int .i64 k, B8 m]] w fun e w' => e = .returned (.tuple #[]) ∧ Below w.heap.size w w' := by
  unfold B8
  go_enter Tryz.func22, Tryz.ntmps22
  go_wp2
  go_end0
  exact ⟨rfl, (Below.refl _ _).alloc (Nat.le_refl _) _⟩

def Fl.fused (fl : Fl) (n k : Int) (m : UInt8) : Fl := { fl with fuse := n, keep := k, mask := m }

set_option maxHeartbeats 1000000 in
theorem fuse_any (p c e : Nat) (fl : Fl) (n k : Int) (m : UInt8) (w : World) (hf : FlashAt w p c e fl) (n1 : -9223372036854775808 ≤ n) (n2 : n ≤ 9223372036854775807) (k1 : -9223372036854775808 ≤ k) (k2 : k ≤ 9223372036854775807) :
    Calls Tryz.prog 22 #[.pointer (some ⟨p, 0, none⟩), .int .i64 n, .agg #[.int .i64 k, B8 m]] w fun e1 w' => e1 = .returned (.tuple #[]) ∧ FlashAt w' p c e (fl.fused n k m) ∧ Only (· = p) w w' := by
  have hh := hf.hd.cell
  have h6 : w.cell? ⟨p, 6, none⟩ = some (.int .i64 fl.fuse) := by rw [hh]; simp [Fl.hdr]
  have h7 : w.cell? ⟨p, 7, none⟩ = some (.int .i64 fl.keep) := by rw [hh]; simp [Fl.hdr]
  have h8 : w.cell? ⟨p, 8, none⟩ = some (.int .u8 (fl.mask.toNat : Int)) := by rw [hh]; simp [Fl.hdr, B8]
  have f6 := hf.hd.frozen 6
  have f7 := hf.hd.frozen 7
  have f8 := hf.hd.frozen 8
  have hlt := hf.hd.lt
  have Hf := Lib.hid hf
  clear hf hh
  unfold B8
  go_enter Tryz.func22, Tryz.ntmps22
  go_wp2
  go_region
  go_end0
  have hf := Hf.out
  refine ⟨rfl, FlashAt.drew ⟨⟨hf.ok.s1, hf.ok.s2, hf.ok.z1, hf.ok.z2, hf.ok.l1, hf.ok.l2, hf.ok.bl, hf.ok.el, hf.ok.eb, n1, n2, k1, k2⟩, Blk.alloc ?_ _, Blk.alloc ?_ _, Blk.alloc ?_ _⟩, Only.drew (Only.alloc ?_ _)⟩
  · have h2 := ((hf.hd.set_ 6 (.int .i64 n)).set_ 7 (.int .i64 k)).set_ 8 (B8 m)
    exact h2
  · have hp : c ≠ p := hf.pc.symm
    exact ((hf.ce.far (p := ⟨p, 6, none⟩) hp _).far (p := ⟨p, 7, none⟩) hp _).far (p := ⟨p, 8, none⟩) hp _
  · have hp : e ≠ p := hf.pe.symm
    exact ((hf.er.far (p := ⟨p, 6, none⟩) hp _).far (p := ⟨p, 7, none⟩) hp _).far (p := ⟨p, 8, none⟩) hp _
  · exact (((Only.refl (· = p) w).setCell (p := ⟨p, 6, none⟩) (Or.inl rfl) _).setCell (p := ⟨p, 7, none⟩) (Or.inl rfl) _).setCell (p := ⟨p, 8, none⟩) (Or.inl rfl) _

/-! ### sector, Erase -/
set_option maxHeartbeats 1000000 in
theorem sector_any (p c S Z k : Nat) (w : World) (h1 : w.cell? ⟨p, 1, none⟩ = some (.int .i64 (Z : Int))) (h3 : w.cell? ⟨p, 3, none⟩ = some (.slice (some ⟨c, 0, none⟩) (S * Z) (S * Z)))
    (hZ : 1 ≤ Z) (hT : S * Z ≤ 4194304) (hk : k < S) :
    Calls Tryz.prog 145 #[.pointer (some ⟨p, 0, none⟩), .int .i64 (k : Int)] w fun e1 w' => e1 = .returned (.slice (some ⟨c, k * Z, none⟩) Z Z) ∧ w = w' := by
  have hkz : k * Z + Z ≤ S * Z := by
    have := Nat.mul_le_mul_right Z (show k + 1 ≤ S by omega)
    rw [Nat.add_mul] at this
    omega
  obtain ⟨q, hq⟩ : ∃ q, q = k * Z := ⟨_, rfl⟩
  have hqi : (k : Int) * (Z : Int) = (q : Int) := by rw [hq]; simp
  rw [← hq] at hkz ⊢
  obtain ⟨T, hTT⟩ : ∃ T, T = S * Z := ⟨_, rfl⟩
  rw [← hTT] at h3 hT hkz
  clear hq hTT
  have hw : IntKind.i64.wrap ((k : Int) * (Z : Int)) = (q : Int) := by rw [hqi, IntKind.wrap_i64]; omega
  have hsub : q + Z - q = Z := by omega
  have Hsub := Lib.hid hsub
  clear hsub
  go_enter Tryz.func145, Tryz.ntmps145
  go_wp2
  go_ret
  refine ⟨?_, rfl⟩
  show Ending.returned (.slice (some ⟨c, q, none⟩) (q + Z - q) (q + Z - q)) = _
  rw [Hsub.out]

theorem erase_nil (k : Int) (w : World) :
    Calls Tryz.prog 119 #[.pointer none, .int .i64 k] w fun e w' => e = .returned (.int .i64 5) ∧ w = w' := by
  go_enter Tryz.func119, Tryz.ntmps119
  go_wp2_with fail
  refine (isDown_nil _).mono ?_
  rintro e1 w1 ⟨rfl, rfl⟩
  go_wp2
  go_ret
  exact ⟨rfl, rfl⟩

theorem erase_down (p : Nat) (k : Int) (w : World) (h5 : w.cell? ⟨p, 5, none⟩ = some (.bool false)) :
    Calls Tryz.prog 119 #[.pointer (some ⟨p, 0, none⟩), .int .i64 k] w fun e w' => e = .returned (.int .i64 5) ∧ w = w' := by
  go_enter Tryz.func119, Tryz.ntmps119
  go_wp2_with fail
  refine (isDown_any _ _ _ h5).mono ?_
  rintro e1 w1 ⟨rfl, rfl⟩
  go_wp2
  go_ret
  exact ⟨rfl, rfl⟩

theorem erase_out (p c e : Nat) (fl : Fl) (k : Int) (w : World) (hf : FlashAt w p c e fl) (hu : fl.up = true) (h : k < 0 ∨ (fl.S : Int) ≤ k) :
    Calls Tryz.prog 119 #[.pointer (some ⟨p, 0, none⟩), .int .i64 k] w fun e w' => e = .returned (.int .i64 2) ∧ w = w' := by
  have hh := has_any p e fl.S k w (by rw [hf.hd.cell]; simp [Fl.hdr])
  have hb : (decide (0 ≤ k) && decide (k < (fl.S : Int))) = false := by simp; omega
  rw [hb] at hh
  have Hh := Lib.hid hh
  have hd := isDown_any p true w (by rw [hf.hd.cell]; simp [Fl.hdr, hu])
  have Hd := Lib.hid hd
  clear hh hf hb h hd
  go_enter Tryz.func119, Tryz.ntmps119
  go_wp2_with fail
  refine Hd.out.mono ?_
  rintro e1 w1 ⟨rfl, rfl⟩
  go_wp2_with fail
  refine Hh.out.mono ?_
  rintro e1 w1 ⟨rfl, rfl⟩
  go_wp2
  go_ret
  exact ⟨rfl, rfl⟩

/-- From o on m of Z bytes are 255; of the next one those bits that the mask has. -/
def eraseF (o m Z : Nat) (mask : UInt8) : Nat → UInt8 → UInt8 := fun i b => if o ≤ i ∧ i < o + m then 255 else if i = o + m ∧ m < Z then b ||| mask else b

theorem eraseF_all (bs : List UInt8) (o m Z : Nat) (mask : UInt8) (h : ¬ m < Z) : bs.mapIdx (fillF o m) = bs.mapIdx (eraseF o m Z mask) := by
  congr 1
  funext i b
  unfold fillF eraseF
  by_cases h1 : o ≤ i ∧ i < o + m
  · rw [if_pos h1, if_pos h1]
  · rw [if_neg h1, if_neg h1, if_neg (by omega)]
theorem eraseF_torn (bs : List UInt8) (o m Z : Nat) (mask : UInt8) (h : m < Z) : (bs.mapIdx (fillF o m)).set (o + m) ((bs[o + m]?.getD 0) ||| mask) = bs.mapIdx (eraseF o m Z mask) := by
  apply set_mapIdx
  · intro b hb
    unfold eraseF
    rw [if_neg (by omega), if_pos ⟨rfl, h⟩, hb]
    rfl
  · intro j b hj
    unfold fillF eraseF
    by_cases h1 : o ≤ j ∧ j < o + m
    · rw [if_pos h1, if_pos h1]
    · rw [if_neg h1, if_neg h1, if_neg (by omega)]

def Fl.erased (fl : Fl) (k : Nat) : Fl :=
  { fl.burn with bs := fl.bs.mapIdx (eraseF (k * fl.Z) (fl.many fl.Z) fl.Z fl.mask), er := fl.er.set k ((fl.er[k]?.getD 0) + 1) }

set_option maxHeartbeats 2000000 in
theorem erase_worn (p c e k m : Nat) (fl : Fl) (w : World) (hf : FlashAt w p c e fl) (hu : fl.up = true) (hm : fl.er[k]? = some m) (h : fl.L ≤ m) :
    Calls Tryz.prog 119 #[.pointer (some ⟨p, 0, none⟩), .int .i64 (k : Int)] w fun e1 w' => e1 = .returned (.int .i64 4) ∧ ∃ n, w' = w.drewN n := by
  have hk : k < fl.S := by have := (List.getElem?_eq_some_iff.1 hm).1; rw [hf.ok.el] at this; exact this
  have hh := has_any p e fl.S k w (by rw [hf.hd.cell]; simp [Fl.hdr])
  have hb : (decide (0 ≤ (k : Int)) && decide ((k : Int) < (fl.S : Int))) = true := by simp; omega
  rw [hb] at hh
  have Hh := Lib.hid hh
  have hd := isDown_any p true w (by rw [hf.hd.cell]; simp [Fl.hdr, hu])
  have Hd := Lib.hid hd
  have h4 : w.cell? ⟨p, 4, none⟩ = some (.slice (some ⟨e, 0, none⟩) fl.S fl.S) := by rw [hf.hd.cell]; simp [Fl.hdr]
  have h2 : w.cell? ⟨p, 2, none⟩ = some (.int .i64 (fl.L : Int)) := by rw [hf.hd.cell]; simp [Fl.hdr]
  have hc : w.cell? ⟨e, k, none⟩ = some (.int .i64 (m : Int)) := by rw [hf.er.cell]; simp [hm]
  have hs := hf.ok.s2
  have hki : (k : Int) < (fl.S : Int) := by omega
  have hk0 : (0 : Int) ≤ (k : Int) := by omega
  clear hh hf hb hd hm hu
  go_enter Tryz.func119, Tryz.ntmps119
  go_wp2_with fail
  refine Hd.out.mono ?_
  rintro e1 w1 ⟨rfl, rfl⟩
  go_wp2_with fail
  refine Hh.out.mono ?_
  rintro e1 w1 ⟨rfl, rfl⟩
  go_wp2_with fail
  go_quiet (fail)
  go_wp2
  go_ret
  exact ⟨rfl, _, rfl⟩

theorem erased_at {w' : World} {p c e k m : Nat} {fl : Fl} (hok : fl.burn.Ok) (hm : fl.er[k]? = some m) (hml : m < fl.L) (hd : Blk w' p 78 (fl.burn.hdr c e))
    (hc : Blk w' c 5 (cellsB (fl.bs.mapIdx (eraseF (k * fl.Z) (fl.many fl.Z) fl.Z fl.mask))))
    (he : Blk w' e 3 ((fl.er.map fun (n : Nat) => Value.int .i64 (n : Int)).toArray.setIfInBounds k (.int .i64 ((m : Int) + 1)))) : FlashAt w' p c e (fl.erased k) := by
  have hb := hok.bl
  have hel := hok.el
  have heb := hok.eb
  rw [fl.burn_geo.2.2.2.1] at hb
  rw [fl.burn_geo.2.2.2.2] at hel heb
  refine ⟨⟨hok.s1, hok.s2, hok.z1, hok.z2, hok.l1, hok.l2, ?_, ?_, ?_, hok.f1, hok.f2, hok.k1, hok.k2⟩, hd, hc, ?_⟩
  · show (fl.bs.mapIdx _).length = _
    rw [List.length_mapIdx]; exact hb
  · show (fl.er.set k _).length = _
    rw [List.length_set]; exact hel
  · intro i n hi
    have hi2 : (fl.er.set k ((fl.er[k]?.getD 0) + 1))[i]? = some n := hi
    show n ≤ fl.burn.L
    rw [List.getElem?_set] at hi2
    by_cases hik : k = i
    · rw [if_pos hik] at hi2
      split at hi2
      · rw [hm] at hi2
        simp at hi2
        rw [fl.burn_geo.2.2.1]
        omega
      · cases hi2
    · rw [if_neg hik] at hi2
      exact heb i n hi2
  · show Blk w' e 3 (((fl.er.set k ((fl.er[k]?.getD 0) + 1)).map fun (n : Nat) => Value.int .i64 (n : Int)).toArray)
    have e1 : ((fl.er.set k ((fl.er[k]?.getD 0) + 1)).map fun (n : Nat) => Value.int .i64 (n : Int)).toArray = (fl.er.map fun (n : Nat) => Value.int .i64 (n : Int)).toArray.setIfInBounds k (.int .i64 ((m : Int) + 1)) := by
      rw [hm]
      simp [List.map_set]
    rw [e1]
    exact he

theorem b_orm (b mask : UInt8) : Value.int .u8 (bits .or .u8 (b.toNat : Int) (mask.toNat : Int)) = B8 (b ||| mask) := by
  rw [b_or]
  rfl

set_option maxHeartbeats 4000000 in
theorem erase_in (p c e k m : Nat) (fl : Fl) (w : World) (hf : FlashAt w p c e fl) (hu : fl.up = true) (hm : fl.er[k]? = some m) (h : m < fl.L) :
    Calls Tryz.prog 119 #[.pointer (some ⟨p, 0, none⟩), .int .i64 (k : Int)] w fun e1 w' => e1 = .returned (.int .i64 fl.code) ∧ FlashAt w' p c e (fl.erased k) ∧ Only (Three p c e) w w' := by
  have hk : k < fl.S := by have := (List.getElem?_eq_some_iff.1 hm).1; rw [hf.ok.el] at this; exact this
  have hh := has_any p e fl.S k w (by rw [hf.hd.cell]; simp [Fl.hdr])
  have hb : (decide (0 ≤ (k : Int)) && decide ((k : Int) < (fl.S : Int))) = true := by simp; omega
  rw [hb] at hh
  have Hh := Lib.hid hh
  have hd := isDown_any p true w (by rw [hf.hd.cell]; simp [Fl.hdr, hu])
  have Hd := Lib.hid hd
  have h4 : w.cell? ⟨p, 4, none⟩ = some (.slice (some ⟨e, 0, none⟩) fl.S fl.S) := by rw [hf.hd.cell]; simp [Fl.hdr]
  have h2 : w.cell? ⟨p, 2, none⟩ = some (.int .i64 (fl.L : Int)) := by rw [hf.hd.cell]; simp [Fl.hdr]
  have hc : w.cell? ⟨e, k, none⟩ = some (.int .i64 (m : Int)) := by rw [hf.er.cell]; simp [hm]
  have hs := hf.ok.s2
  have hz1 := hf.ok.z1
  have hz2 := hf.ok.z2
  have hl2 := hf.ok.l2
  have hsz := hf.ok.sz
  have hkz : k * fl.Z + fl.Z ≤ fl.S * fl.Z := by
    have := Nat.mul_le_mul_right fl.Z (show k + 1 ≤ fl.S by omega)
    rw [Nat.add_mul] at this
    omega
  have hki : (k : Int) < (fl.S : Int) := by omega
  have hk0 : (0 : Int) ≤ (k : Int) := by omega
  have Hu := Lib.hid hu
  have Hm := Lib.hid hm
  clear hh hb hd hm hu
  have Hf := Lib.hid hf
  clear hf
  go_enter Tryz.func119, Tryz.ntmps119
  go_wp2_with fail
  refine Hd.out.mono ?_
  rintro e1 w1 ⟨rfl, rfl⟩
  go_wp2_with fail
  refine Hh.out.mono ?_
  rintro e1 w1 ⟨rfl, rfl⟩
  go_wp2_with fail
  go_quiet (fail)
  go_wp2_with fail
  have hfn := Hf.out.drewN nq
  refine (sector_any p c fl.S fl.Z k (w.drewN nq) (by rw [hfn.hd.cell]; simp [Fl.hdr]) (by rw [hfn.hd.cell]; simp [Fl.hdr]) (by omega) (by omega) hk).mono ?_
  rintro e1 w1 ⟨rfl, rfl⟩
  go_wp2_with fail
  refine (act_any p c e fl fl.Z _ hfn Hu.out (by omega)).mono ?_
  rintro e1 w1 ⟨rfl, hf1, ho1⟩
  have hml := fl.many_le fl.Z
  obtain ⟨q, hq⟩ : ∃ q, q = fl.many fl.Z := ⟨_, rfl⟩
  rw [← hq] at hml ⊢
  obtain ⟨o, hok⟩ : ∃ o, o = k * fl.Z := ⟨_, rfl⟩
  rw [← hok] at hkz ⊢
  have Hq := Lib.hid hq
  have Hok := Lib.hid hok
  clear hq hok h4 h2 hc
  go_wp2_with fail
  refine (fill_any c o q fl.Z fl.burn.bs w1 hf1.ce (by rw [hf1.ok.bl, fl.burn_geo.1, fl.burn_geo.2.1]; omega) (by omega)).mono ?_
  rintro e1 w2 ⟨rfl, hb2, ho2⟩
  rw [fl.burn_geo.2.2.2.1] at hb2
  have hhd := ho2.blk hf1.hd hf1.pc
  have her := ho2.blk hf1.er hf1.cep.symm
  rw [fl.burn_geo.2.2.2.2] at her
  have hp4 : w2.cell? ⟨p, 4, none⟩ = some (.slice (some ⟨e, 0, none⟩) fl.S fl.S) := by rw [hhd.cell]; simp [Fl.hdr, fl.burn_geo]
  have hp8 : w2.cell? ⟨p, 8, none⟩ = some (.int .u8 (fl.mask.toNat : Int)) := by rw [hhd.cell]; simp [Fl.hdr, fl.burn_rest.1, B8]
  have hek : w2.cell? ⟨e, k, none⟩ = some (.int .i64 (m : Int)) := by rw [her.cell]; simp [Hm.out]
  have fek := her.frozen k
  have npc : ¬ p = c := hf1.pc
  have nec : ¬ e = c := hf1.cep.symm
  have nep : ¬ e = p := hf1.pe.symm
  have ho3 : Only (Three p c e) w w2 := by
    have h1 : Only (Three p c e) (w.drewN nq) w1 := ho1.mono (fun i _ hi => Or.inl hi)
    have h2 : Only (Three p c e) w1 w2 := ho2.mono (fun i _ hi => Or.inr (Or.inl hi))
    exact ((Only.refl (Three p c e) w).drewN nq).trans (h1.trans h2)
  have Hf1 := Lib.hid hf1
  have Hhd := Lib.hid hhd
  have Her := Lib.hid her
  have Hb2 := Lib.hid hb2
  have Ho2 := Lib.hid ho2
  have Ho3 := Lib.hid ho3
  clear hf1 hhd her hfn ho1 hb2 ho2 ho3
  have hb2 := Hb2.out
  by_cases hqz : q < fl.Z
  · have hcl : o + q < fl.bs.length := by rw [Hf.out.ok.bl]; omega
    have hcc : w2.cell? ⟨c, o + q, none⟩ = some (B8 (fl.bs[o + q]?.getD 0)) := by
      rw [hb2.cell, cellsB_get, List.getElem?_mapIdx]
      simp [hcl, fillF]
    have fcc := hb2.frozen (o + q)
    unfold B8 at hcc
    clear hb2 hcl
    generalize hcb : fl.bs[o + q]?.getD 0 = cb at hcc
    have Hcb := Lib.hid hcb
    clear hcb
    go_wp2
    go_region
    go_wp2
    go_ret
    rw [b_orm]
    refine ⟨rfl, ?_, ?_⟩
    · have hb3 := (Hb2.out.set_ (o + q) (B8 (cb ||| fl.mask))).far (p := ⟨e, k, none⟩) (fun h => nec h.symm) (.int .i64 ((m : Int) + 1))
      have hl : (fl.bs.mapIdx (fillF o q)).set (o + q) (cb ||| fl.mask) = fl.bs.mapIdx (eraseF (k * fl.Z) (fl.many fl.Z) fl.Z fl.mask) := by
        rw [← Hcb.out, eraseF_torn _ _ _ _ _ hqz, Hok.out, Hq.out]
      rw [cellsB_set, hl] at hb3
      have hfin := erased_at (w' := ((w2.setCell ⟨c, o + q, none⟩ (B8 (cb ||| fl.mask))).setCell ⟨e, k, none⟩ (.int .i64 ((m : Int) + 1)))) Hf1.out.ok Hm.out h
        ((Hhd.out.far (p := ⟨c, o + q, none⟩) npc _).far (p := ⟨e, k, none⟩) (fun h => nep h.symm) _) hb3 ((Her.out.far (p := ⟨c, o + q, none⟩) nec _).set_ _ _)
      exact hfin.drew
    · exact ((Ho3.out.setCell (p := ⟨c, o + q, none⟩) (Or.inl (Or.inr (Or.inl rfl))) _).setCell (p := ⟨e, k, none⟩) (Or.inl (Or.inr (Or.inr rfl))) _).drew
  · clear hb2
    go_wp2
    go_ret
    refine ⟨rfl, ?_, ?_⟩
    · have hb3 := Hb2.out.far (p := ⟨e, k, none⟩) (fun h => nec h.symm) (.int .i64 ((m : Int) + 1))
      rw [eraseF_all _ _ _ _ fl.mask hqz, Hok.out, Hq.out] at hb3
      exact erased_at Hf1.out.ok Hm.out h (Hhd.out.far (p := ⟨e, k, none⟩) (fun h => nep h.symm) _) hb3 (Her.out.set_ _ _)
    · exact Ho3.out.setCell (p := ⟨e, k, none⟩) (Or.inl (Or.inr (Or.inr rfl))) _

end Go.Proofs.YtnhfmcijadficaaGreatDoor

/- The walks over mayBe and New. -/
namespace Go.Proofs.YtnhfmcijadficaaGreatDoor
set_option maxRecDepth 100000
open Go.RowKit

theorem within_yes (a b c : Int) (w : World) (h : b ≤ a ∧ a ≤ c) :
    Calls Tryz.prog 68 #[.int .i64 a, .int .i64 b, .int .i64 c] w fun e w' => e = .returned (.bool true) ∧ w = w' :=
  (within_any a b c w).mono fun e w' ⟨he, hw⟩ => ⟨by rw [he]; simp [h.1, h.2], hw⟩
theorem within_no (a b c : Int) (w : World) (h : a < b ∨ c < a) :
    Calls Tryz.prog 68 #[.int .i64 a, .int .i64 b, .int .i64 c] w fun e w' => e = .returned (.bool false) ∧ w = w' :=
  (within_any a b c w).mono fun e w' ⟨he, hw⟩ => ⟨by rw [he]; congr 2; simp; omega, hw⟩

/-- A geometry that may be. -/
structure GeoOk (S Z L : Int) : Prop where
  s1 : 1 ≤ S
  s2 : S ≤ 64
  z1 : 64 ≤ Z
  z2 : Z ≤ 65536
  l1 : 1 ≤ L
  l2 : L ≤ 1048576

set_option maxHeartbeats 1000000 in
theorem mayBe_yes (S Z L : Int) (w : World) (h : GeoOk S Z L) :
    Calls Tryz.prog 31 #[.agg #[.int .i64 S, .int .i64 Z, .int .i64 L]] w fun e w' => e = .returned (.bool true) ∧ w' = w.alloc (.cells #[.int .i64 S, .int .i64 Z, .int .i64 L] 29) := by
  go_enter Tryz.func31, Tryz.ntmps31
  go_wp2_with fail
  refine (within_yes _ _ _ _ ⟨h.s1, h.s2⟩).mono ?_
  rintro e1 w1 ⟨rfl, rfl⟩
  go_wp2_with fail
  refine (within_yes _ _ _ _ ⟨h.z1, h.z2⟩).mono ?_
  rintro e1 w1 ⟨rfl, rfl⟩
  go_wp2_with fail
  refine (within_yes _ _ _ _ ⟨h.l1, h.l2⟩).mono ?_
  rintro e1 w1 ⟨rfl, rfl⟩
  go_wp2
  go_ret
  exact ⟨rfl, rfl⟩

set_option maxHeartbeats 1000000 in
theorem mayBe_no (S Z L : Int) (w : World) (h : ¬ GeoOk S Z L) :
    Calls Tryz.prog 31 #[.agg #[.int .i64 S, .int .i64 Z, .int .i64 L]] w fun e w' => e = .returned (.bool false) ∧ w' = w.alloc (.cells #[.int .i64 S, .int .i64 Z, .int .i64 L] 29) := by
  have Hh := Lib.hid h
  clear h
  by_cases hS : 1 ≤ S ∧ S ≤ 64
  · by_cases hZ : 64 ≤ Z ∧ Z ≤ 65536
    · have hL : L < 1 ∨ 1048576 < L := by
        rcases Int.lt_or_le L 1 with h | h
        · exact Or.inl h
        · refine Or.inr (Int.not_le.1 fun h2 => Hh.out ⟨hS.1, hS.2, hZ.1, hZ.2, h, h2⟩)
      go_enter Tryz.func31, Tryz.ntmps31
      go_wp2_with fail
      refine (within_yes _ _ _ _ hS).mono ?_
      rintro e1 w1 ⟨rfl, rfl⟩
      go_wp2_with fail
      refine (within_yes _ _ _ _ hZ).mono ?_
      rintro e1 w1 ⟨rfl, rfl⟩
      go_wp2_with fail
      refine (within_no _ _ _ _ hL).mono ?_
      rintro e1 w1 ⟨rfl, rfl⟩
      go_wp2
      go_ret
      exact ⟨rfl, rfl⟩
    · go_enter Tryz.func31, Tryz.ntmps31
      go_wp2_with fail
      refine (within_yes _ _ _ _ hS).mono ?_
      rintro e1 w1 ⟨rfl, rfl⟩
      go_wp2_with fail
      refine (within_no _ _ _ _ (by omega)).mono ?_
      rintro e1 w1 ⟨rfl, rfl⟩
      go_wp2
      go_ret
      exact ⟨rfl, rfl⟩
  · go_enter Tryz.func31, Tryz.ntmps31
    go_wp2_with fail
    refine (within_no _ _ _ _ (by omega)).mono ?_
    rintro e1 w1 ⟨rfl, rfl⟩
    go_wp2
    go_ret
    exact ⟨rfl, rfl⟩

set_option maxHeartbeats 1000000 in
theorem new_no (S Z L : Int) (w : World) (h : ¬ GeoOk S Z L) :
    Calls Tryz.prog 8 #[.agg #[.int .i64 S, .int .i64 Z, .int .i64 L]] w fun e w' => e = .returned (.tuple #[.pointer none, .int .i64 1]) ∧ Below w.heap.size w w' := by
  have Hh := Lib.hid h
  clear h
  go_enter Tryz.func8, Tryz.ntmps8
  go_wp2_with fail
  refine (mayBe_no _ _ _ _ Hh.out).mono ?_
  rintro e1 w1 ⟨rfl, rfl⟩
  go_wp2
  go_ret2
  exact ⟨rfl, ((Below.refl _ _).alloc (Nat.le_refl _) _).alloc (by simp) _⟩

/-- A new flash. -/
def Fl.fresh (S Z L : Nat) : Fl := { S := S, Z := Z, L := L, bs := List.replicate (S * Z) 255, er := List.replicate S 0, up := true, fuse := -1, keep := 0, mask := 0 }

/-- What New gives. -/
def NewOk (w w' : World) (S Z L : Nat) (e : Ending) : Prop :=
  ∃ p c er, e = .returned (.tuple #[.pointer (some ⟨p, 0, none⟩), .int .i64 0]) ∧ FlashAt w' p c er (Fl.fresh S Z L) ∧ Below w.heap.size w w' ∧ w.heap.size ≤ p ∧ w.heap.size ≤ c ∧ w.heap.size ≤ er

theorem Tryz.infoInt : (Tryz.prog.info? 3).map (fun i => (i.zero, i.size, i.bytes)) = some (some (.int .i64 0), 1, 8) := by kernel_rfl

theorem made_ints (n : Nat) : madeCells #[.int .i64 0] n = ((List.replicate n 0).map fun (n : Nat) => Value.int .i64 (n : Int)).toArray := by
  apply Array.ext'
  rw [toList_madeCells_one]
  simp
theorem filled_all (n : Nat) : (List.replicate n (0 : UInt8)).mapIdx (fillF 0 n) = List.replicate n 255 := by
  apply List.ext_getElem?
  intro j
  rw [List.getElem?_mapIdx, List.getElem?_replicate, List.getElem?_replicate]
  by_cases h : j < n
  · simp [h, fillF]
  · simp [h]

theorem Blk.new' {w : World} {g : Nat} {t : TypeId} {cs : Array Value} (h : g = w.heap.size) : Blk (w.alloc (.cells cs t)) g t cs := by rw [h]; exact Blk.new w t cs

theorem fresh_ok {S Z L : Nat} (h : GeoOk S Z L) : (Fl.fresh S Z L).Ok := by
  obtain ⟨a, b, c, d, e, f⟩ := h
  refine ⟨?_, ?_, ?_, ?_, ?_, ?_, ?_, ?_, ?_, ?_, ?_, ?_, ?_⟩ <;> simp only [Fl.fresh] <;> first | omega | (simp; done) | skip
  intro i n hi
  rw [List.getElem?_replicate] at hi
  split at hi
  · cases hi; omega
  · cases hi

theorem new_end {w W w2 : World} {p c er S Z L T : Nat} (h : GeoOk S Z L) (hT : T = S * Z) (hb : Below w.heap.size w W) (hp : w.heap.size ≤ p) (hc : w.heap.size ≤ c) (he : w.heap.size ≤ er) (hpc : p ≠ c) (hec : er ≠ c)
    (hd : Blk W p 78 #[.int .i64 (S : Int), .int .i64 (Z : Int), .int .i64 (L : Int), .slice (some ⟨c, 0, none⟩) T T, .slice (some ⟨er, 0, none⟩) S S, .bool true, .int .i64 (-1), .int .i64 0, .int .u8 0])
    (hr : Blk W er 3 (madeCells #[.int .i64 0] S)) (hcc : Blk w2 c 5 (cellsB ((List.replicate T 0).mapIdx (fillF 0 T)))) (ho : Only (· = c) W w2) :
    NewOk w w2 S Z L (.returned (.tuple #[.pointer (some ⟨p, 0, none⟩), .int .i64 0])) := by
  subst hT
  have hd2 := ho.blk hd hpc
  have hr2 := ho.blk hr hec
  rw [filled_all] at hcc
  rw [made_ints] at hr2
  refine ⟨p, c, er, rfl, ⟨fresh_ok h, hd2, hcc, hr2⟩, ?_, hp, hc, he⟩
  exact hb.trans ((ho.below hb.size (by intro k hk e; omega)))

set_option maxHeartbeats 2000000 in
theorem new_yes (S Z L : Nat) (w : World) (h : GeoOk S Z L) :
    Calls Tryz.prog 8 #[.agg #[.int .i64 (S : Int), .int .i64 (Z : Int), .int .i64 (L : Int)]] w fun e w' => NewOk w w' S Z L e := by
  have hT : S * Z ≤ 64 * 65536 := Nat.mul_le_mul (by have := h.s2; omega) (by have := h.z2; omega)
  have hs2 := h.s2
  obtain ⟨T, hTe⟩ : ∃ T, T = S * Z := ⟨_, rfl⟩
  have hmul : IntKind.i64.wrap ((S : Int) * (Z : Int)) = (T : Int) := by
    have : (S : Int) * (Z : Int) = ((S * Z : Nat) : Int) := by simp
    rw [this, ← hTe, IntKind.wrap_i64]
    omega
  rw [← hTe] at hT
  have hmk1 := fun W => run_make_row' (P := Tryz.prog) 22 5 (.int .u8 0) 1 Tryz.underlying22 Tryz.infoU8 rfl .i64 .i64 T (by omega) (by omega) W
  have hmk2 := fun W => run_make_row' (P := Tryz.prog) 76 3 (.int .i64 0) 8 Tryz.underlying76 Tryz.infoInt rfl .i64 .i64 S (by omega) (by omega) W
  have Hh := Lib.hid h
  have HT := Lib.hid hTe
  clear h hTe
  go_enter Tryz.func8, Tryz.ntmps8
  go_wp2_with fail
  refine (mayBe_yes _ _ _ _ Hh.out).mono ?_
  rintro e1 w1 ⟨rfl, rfl⟩
  go_wp2_with fail
  go_region
  · go_wp2_with fail
    clear hmk1 hmk2 hmul
    refine (fill_any (w.heap.size + 1 + 1) 0 T T (List.replicate T 0) _ ?hb (by simp) (by omega)).mono ?_
    case hb =>
      rw [← made_bytes]
      exact (((Blk.new' (by simp)).alloc _).alloc _).drew
    rintro e1 w2 ⟨rfl, hb2, ho2⟩
    go_wp2
    go_ret2
    refine new_end (p := w.heap.size + 1 + 1 + 1 + 1) (er := w.heap.size + 1 + 1 + 1) Hh.out HT.out ?_ (by omega) (by omega) (by omega) (by omega) (by omega) ?_ ?_ hb2 ho2
    · exact (((((((Below.refl _ _).alloc (Nat.le_refl _) _).alloc (by simp) _).alloc (by simp; omega) _).alloc (by simp; omega) _).alloc (by simp; omega) _).drew)
    · exact (Blk.new' (by simp)).drew
    · exact ((Blk.new' (by simp)).alloc _).drew
  · go_wp2_with fail
    clear hmk1 hmk2 hmul
    refine (fill_any (w.heap.size + 1 + 1 + 1) 0 T T (List.replicate T 0) _ ?hb (by simp) (by omega)).mono ?_
    case hb =>
      rw [← made_bytes]
      exact ((Blk.new' (by simp)).alloc _).drew
    rintro e1 w2 ⟨rfl, hb2, ho2⟩
    go_wp2
    go_ret2
    refine new_end (p := w.heap.size + 1 + 1 + 1 + 1) (er := w.heap.size + 1 + 1) Hh.out HT.out ?_ (by omega) (by omega) (by omega) (by omega) (by omega) ?_ ?_ hb2 ho2
    · exact (((((((Below.refl _ _).alloc (Nat.le_refl _) _).alloc (by simp) _).alloc (by simp; omega) _).alloc (by simp; omega) _).alloc (by simp; omega) _).drew)
    · exact (Blk.new' (by simp)).drew
    · exact (((Blk.new' (by simp)).alloc _).alloc _).drew

end Go.Proofs.YtnhfmcijadficaaGreatDoor

/- The sums as plain mathematics: what one bit does to a sum, that it is linear and one to one, what a turned bit does to the sum of bytes. Nothing of the program. -/
namespace Go.Proofs.YtnhfmcijadficaaGreatDoor
set_option maxRecDepth 100000

/-- Doubled; combined where a bit falls out. -/
def d16 (s : BitVec 16) : BitVec 16 := (s <<< 1) ^^^ (if s.msb then 0x1021#16 else 0#16)
/-- Halved; combined where a bit falls out. -/
def d32 (s : BitVec 32) : BitVec 32 := (s >>> 1) ^^^ (if s.getLsbD 0 then 0x82f63b78#32 else 0#32)

/-- f done n times. -/
def reps {n : Nat} (f : BitVec n → BitVec n) : Nat → BitVec n → BitVec n
  | 0, s => s
  | k + 1, s => reps f k (f s)

section
variable {n : Nat} (f : BitVec n → BitVec n)
theorem reps_add (a b : Nat) (s : BitVec n) : reps f (a + b) s = reps f b (reps f a s) := by
  induction a generalizing s with
  | zero => simp [reps]
  | succ a ih => rw [show a + 1 + b = (a + b) + 1 by omega]; exact ih (f s)
theorem reps_succ (a : Nat) (s : BitVec n) : reps f (a + 1) s = f (reps f a s) := by rw [reps_add]; rfl
theorem reps_lin (hf : ∀ a b, f (a ^^^ b) = f a ^^^ f b) (k : Nat) (a b : BitVec n) : reps f k (a ^^^ b) = reps f k a ^^^ reps f k b := by
  induction k generalizing a b with
  | zero => rfl
  | succ k ih => show reps f k (f (a ^^^ b)) = _; rw [hf, ih]; rfl
theorem reps_zero (h0 : ∀ a, f a = 0#n ↔ a = 0#n) (k : Nat) (a : BitVec n) : reps f k a = 0#n ↔ a = 0#n := by
  induction k generalizing a with
  | zero => exact Iff.rfl
  | succ k ih => show reps f k (f a) = 0#n ↔ _; rw [ih, h0]
end

theorem xor_back {n : Nat} (p x : BitVec n) : p ^^^ (p ^^^ x) = x := by rw [← BitVec.xor_assoc, BitVec.xor_self, BitVec.zero_xor]

theorem d16_lin (a b : BitVec 16) : d16 (a ^^^ b) = d16 a ^^^ d16 b := by
  unfold d16
  rw [BitVec.shiftLeft_xor_distrib, BitVec.msb_xor]
  cases a.msb <;> cases b.msb <;> simp <;> first | ac_rfl | (rw [show a <<< 1 ^^^ 4129#16 ^^^ (b <<< 1 ^^^ 4129#16) = 4129#16 ^^^ (4129#16 ^^^ (a <<< 1 ^^^ b <<< 1)) by ac_rfl, xor_back])
theorem d32_lin (a b : BitVec 32) : d32 (a ^^^ b) = d32 a ^^^ d32 b := by
  unfold d32
  rw [BitVec.ushiftRight_xor_distrib, BitVec.getLsbD_xor]
  cases a.getLsbD 0 <;> cases b.getLsbD 0 <;> simp <;> first | ac_rfl | (rw [show a >>> 1 ^^^ 2197175160#32 ^^^ (b >>> 1 ^^^ 2197175160#32) = 2197175160#32 ^^^ (2197175160#32 ^^^ (a >>> 1 ^^^ b >>> 1)) by ac_rfl, xor_back])

theorem xor_eq_zero {n : Nat} (a b : BitVec n) : a ^^^ b = 0#n ↔ a = b := by
  constructor
  · intro h
    have e : (a ^^^ b) ^^^ b = 0#n ^^^ b := by rw [h]
    rwa [BitVec.xor_assoc, BitVec.xor_self, BitVec.xor_zero, BitVec.zero_xor] at e
  · rintro rfl; exact BitVec.xor_self

theorem d16_zero (a : BitVec 16) : d16 a = 0#16 ↔ a = 0#16 := by
  constructor
  · intro h
    unfold d16 at h
    cases hm : a.msb with
    | true =>
      rw [hm, if_pos rfl] at h
      have h0 := congrArg (fun v => v.getLsbD 0) h
      simp at h0
    | false =>
      rw [hm] at h
      simp at h
      apply BitVec.eq_of_getLsbD_eq
      intro i hi
      by_cases h15 : i = 15
      · subst h15
        rw [BitVec.msb_eq_getLsbD_last] at hm
        simpa using hm
      · have h1 := congrArg (fun v => v.getLsbD (i + 1)) h
        simp at h1
        simpa using h1 (by omega)
  · rintro rfl; decide
theorem d32_zero (a : BitVec 32) : d32 a = 0#32 ↔ a = 0#32 := by
  constructor
  · intro h
    unfold d32 at h
    cases hm : a.getLsbD 0 with
    | true =>
      rw [hm, if_pos rfl] at h
      have h0 := congrArg (fun v => v.getLsbD 31) h
      simp at h0
    | false =>
      rw [hm] at h
      simp at h
      apply BitVec.eq_of_getLsbD_eq
      intro i hi
      cases i with
      | zero => simpa using hm
      | succ j =>
        have h1 := congrArg (fun v => v.getLsbD j) h
        simp at h1
        rw [Nat.add_comm] at h1
        simpa using h1
  · rintro rfl; decide

/-- The bits in the order in which they come. -/
def u16 (j : Nat) : BitVec 16 := 0x8000#16 >>> j
def u32 (j : Nat) : BitVec 32 := 1#32 <<< j

theorem d16_u : ∀ j, j < 15 → d16 (u16 (j + 1)) = u16 j := by decide
theorem d32_u : ∀ j, j < 31 → d32 (u32 (j + 1)) = u32 j := by decide

/-- A sum's ways: what one bit does (f), where a byte's bits come in (emb), the bits in their order (u), and a byte with but one bit (bit). -/
structure Way (n : Nat) where
  f : BitVec n → BitVec n
  emb : UInt8 → BitVec n
  u : Nat → BitVec n
  lane : Nat → Nat
  bit : Nat → UInt8
  lin : ∀ a b, f (a ^^^ b) = f a ^^^ f b
  zero : ∀ a, f a = 0#n ↔ a = 0#n
  elin : ∀ a b, emb (a ^^^ b) = emb a ^^^ emb b
  hu : ∀ j, j + 1 < n → f (u (j + 1)) = u j
  hl : ∀ j, j < n → ∀ k, k < n → (u j).getLsbD (lane k) = decide (j = k)
  hb : ∀ j, j < 8 → emb (bit j) = u j
  hn : 8 ≤ n

namespace Way
variable {n : Nat} (c : Way n)
/-- What one byte does. -/
def byte (s : BitVec n) (x : UInt8) : BitVec n := reps c.f 8 (s ^^^ c.emb x)
/-- What bytes do. -/
def sum (s : BitVec n) (xs : List UInt8) : BitVec n := xs.foldl c.byte s
theorem sum_nil (s : BitVec n) : c.sum s [] = s := rfl
theorem sum_cons (s : BitVec n) (x : UInt8) (xs : List UInt8) : c.sum s (x :: xs) = c.sum (c.byte s x) xs := rfl
theorem sum_append (s : BitVec n) (xs ys : List UInt8) : c.sum s (xs ++ ys) = c.sum (c.sum s xs) ys := by simp [sum, List.foldl_append]
theorem sum_snoc (s : BitVec n) (xs : List UInt8) (y : UInt8) : c.sum s (xs ++ [y]) = c.byte (c.sum s xs) y := by rw [sum_append]; rfl
theorem byte_xor (s t : BitVec n) (x : UInt8) : c.byte (s ^^^ t) x = c.byte s x ^^^ reps c.f 8 t := by
  unfold byte
  rw [show s ^^^ t ^^^ c.emb x = (s ^^^ c.emb x) ^^^ t by ac_rfl, reps_lin c.f c.lin]
theorem sum_xor (xs : List UInt8) (s t : BitVec n) : c.sum (s ^^^ t) xs = c.sum s xs ^^^ reps c.f (8 * xs.length) t := by
  induction xs generalizing s t with
  | nil => rfl
  | cons x xs ih => rw [sum_cons, sum_cons, byte_xor, ih, List.length_cons, show 8 * (xs.length + 1) = 8 + 8 * xs.length by omega, reps_add]
/-- One byte combined with another one. -/
theorem sum_set (xs : List UInt8) (s : BitVec n) (p : Nat) (y z : UInt8) (h : xs[p]? = some y) :
    c.sum s (xs.set p (y ^^^ z)) = c.sum s xs ^^^ reps c.f (8 * (xs.length - p)) (c.emb z) := by
  induction xs generalizing s p with
  | nil => simp at h
  | cons x xs ih =>
    cases p with
    | zero =>
      obtain rfl : x = y := by simpa using h
      rw [List.set_cons_zero, sum_cons, sum_cons]
      have e : c.byte s (x ^^^ z) = c.byte s x ^^^ reps c.f 8 (c.emb z) := by
        unfold byte
        rw [c.elin, ← BitVec.xor_assoc, reps_lin c.f c.lin]
      rw [e, sum_xor, ← reps_add, List.length_cons, show 8 * (xs.length + 1 - 0) = 8 + 8 * xs.length by omega]
    | succ p =>
      rw [List.set_cons_succ, sum_cons, sum_cons, ih (c.byte s x) p (by simpa using h), List.length_cons, Nat.succ_sub_succ]
theorem reps_u (j a : Nat) (h : j < n) : reps c.f (j + a) (c.u j) = reps c.f a (c.u 0) := by
  induction j with
  | zero => simp
  | succ j ih => rw [show j + 1 + a = (j + a) + 1 by omega]; show reps c.f (j + a) (c.f (c.u (j + 1))) = _; rw [c.hu j h, ih (by omega)]

/-- Behind i of the places: c' are the bytes with some bits turned, t tells whether any was. -/
def Turned (xs ys : List UInt8) (start i : Nat) (t : Bool) : Prop :=
  ys.length = xs.length ∧ ∃ W : BitVec n, (∀ j, i ≤ j → j < n → W.getLsbD (c.lane j) = false) ∧ (t = true ↔ W ≠ 0#n) ∧ ∀ s, c.sum s ys = c.sum s xs ^^^ reps c.f (8 * xs.length - start) W
variable {c} {xs ys : List UInt8} {start i : Nat} {t : Bool}
theorem Turned.at_zero (xs : List UInt8) (start : Nat) : c.Turned xs xs start 0 false :=
  ⟨rfl, 0#n, fun _ _ _ => by simp, by simp, fun s => by rw [(reps_zero c.f c.zero _ _).2 rfl]; simp⟩
theorem Turned.skip (h : c.Turned xs ys start i t) : c.Turned xs ys start (i + 1) t := by
  obtain ⟨hl, W, h1, h2, h3⟩ := h
  exact ⟨hl, W, fun j hj => h1 j (by omega), h2, h3⟩
theorem Turned.flip (h : c.Turned xs ys start i t) (hi : i < n) (hk : start + i < 8 * xs.length) (y : UInt8) (hy : ys[(start + i) / 8]? = some y) :
    c.Turned xs (ys.set ((start + i) / 8) (y ^^^ c.bit ((start + i) % 8))) start (i + 1) true := by
  obtain ⟨hl, W, h1, h2, h3⟩ := h
  refine ⟨by simpa using hl, W ^^^ c.u i, fun j hj hjn => ?_, ?_, fun s => ?_⟩
  · rw [BitVec.getLsbD_xor, h1 j (by omega) hjn, c.hl i hi j hjn]
    simp
    omega
  · simp only [true_iff]
    intro h0
    have e := congrArg (fun v => v.getLsbD (c.lane i)) h0
    simp only [BitVec.getLsbD_xor, h1 i (Nat.le_refl _) hi, c.hl i hi i hi] at e
    simp at e
  · have hj : (start + i) % 8 < 8 := Nat.mod_lt _ (by omega)
    rw [c.sum_set ys s _ y _ hy, c.hb _ hj, h3, BitVec.xor_assoc, reps_lin c.f c.lin, hl]
    have hn := c.hn
    have ha : (start + i) % 8 + (8 * xs.length - (start + i)) = 8 * (xs.length - (start + i) / 8) := by omega
    have hb : i + (8 * xs.length - (start + i)) = 8 * xs.length - start := by omega
    rw [← ha, ← hb, c.reps_u _ _ (by omega), c.reps_u _ _ hi]
theorem Turned.done (h : c.Turned xs ys start n t) (s : BitVec n) : (c.sum s ys ≠ c.sum s xs) ↔ t = true := by
  obtain ⟨hl, W, h1, h2, h3⟩ := h
  rw [h2, h3]
  have hz := reps_zero c.f c.zero (8 * xs.length - start) W
  have e : c.sum s xs ^^^ reps c.f (8 * xs.length - start) W = c.sum s xs ↔ reps c.f (8 * xs.length - start) W = 0#n := by
    constructor
    · intro h
      have := congrArg (fun v => c.sum s xs ^^^ v) h
      simpa [xor_back] using this
    · intro h; rw [h]; simp
  rw [Ne, e, hz]
end Way

def emb16 (x : UInt8) : BitVec 16 := x.toBitVec.zeroExtend 16 <<< 8
def emb32 (x : UInt8) : BitVec 32 := x.toBitVec.zeroExtend 32
theorem emb16_lin (a b : UInt8) : emb16 (a ^^^ b) = emb16 a ^^^ emb16 b := by
  unfold emb16
  rw [UInt8.toBitVec_xor, ← BitVec.shiftLeft_xor_distrib]
  apply BitVec.eq_of_getLsbD_eq
  intro i hi
  simp only [BitVec.getLsbD_shiftLeft, BitVec.getLsbD_xor, BitVec.truncate_eq_setWidth, BitVec.getLsbD_setWidth]
  by_cases h : i < 8
  · simp [h]
  · simp [h, hi, show i - 8 < 16 by omega]
theorem emb32_lin (a b : UInt8) : emb32 (a ^^^ b) = emb32 a ^^^ emb32 b := by
  unfold emb32
  rw [UInt8.toBitVec_xor]
  apply BitVec.eq_of_getLsbD_eq
  intro i hi
  simp

def way16 : Way 16 where
  f := d16
  emb := emb16
  u := u16
  lane := fun j => 15 - j
  bit := fun j => 128 >>> UInt8.ofNat j
  lin := d16_lin
  zero := d16_zero
  elin := emb16_lin
  hu := fun j h => d16_u j (by omega)
  hl := by decide
  hb := by decide
  hn := by decide
def way32 : Way 32 where
  f := d32
  emb := emb32
  u := u32
  lane := fun j => j
  bit := fun j => 1 <<< UInt8.ofNat j
  lin := d32_lin
  zero := d32_zero
  elin := emb32_lin
  hu := fun j h => d32_u j (by omega)
  hl := by decide
  hb := by decide
  hn := by decide

/-! ### Four bits at once -/
theorem d16_low (a : BitVec 16) (h : a.getLsbD 15 = false) : d16 a = a <<< 1 := by
  unfold d16
  rw [BitVec.msb_eq_getLsbD_last, h]
  simp
theorem d32_high (a : BitVec 32) (h : a.getLsbD 0 = false) : d32 a = a >>> 1 := by
  unfold d32
  rw [h]
  simp

theorem nib16 (s : BitVec 16) : reps d16 4 s = (s <<< 4) ^^^ reps d16 4 ((s >>> 12) <<< 12) := by
  have e : s = (s &&& 0xfff#16) ^^^ ((s >>> 12) <<< 12) := by
    apply BitVec.eq_of_getLsbD_eq
    intro i hi
    have hm : (0xfff#16).getLsbD i = decide (i < 12) := by
      revert i; decide
    simp only [BitVec.getLsbD_xor, BitVec.getLsbD_and, hm, BitVec.getLsbD_shiftLeft, BitVec.getLsbD_ushiftRight]
    by_cases h : i < 12
    · simp [h]
    · simp [h, hi, show 12 + (i - 12) = i by omega]
  have hm : ∀ i, i < 16 → (0xfff#16).getLsbD i = decide (i < 12) := by decide
  have e2 : reps d16 4 (s &&& 0xfff#16) = s <<< 4 := by
    have hb : ∀ i, 12 ≤ i → i < 16 → (s &&& 0xfff#16).getLsbD i = false := by
      intro i hi h16
      simp [BitVec.getLsbD_and, hm i h16, show ¬ i < 12 by omega]
    have e3 : s <<< 4 = (s &&& 0xfff#16) <<< 4 := by
      apply BitVec.eq_of_getLsbD_eq
      intro i hi
      simp only [BitVec.getLsbD_shiftLeft, BitVec.getLsbD_and]
      by_cases h : i < 4
      · simp [h]
      · rw [hm (i - 4) (by omega)]
        simp [show i - 4 < 12 by omega]
    rw [e3]
    generalize hx : s &&& 0xfff#16 = x at hb
    show d16 (d16 (d16 (d16 x))) = _
    rw [d16_low x (hb 15 (by omega) (by omega)), d16_low (x <<< 1) (by simpa using hb 14 (by omega) (by omega)), d16_low (x <<< 1 <<< 1) (by simpa using hb 13 (by omega) (by omega)), d16_low (x <<< 1 <<< 1 <<< 1) (by simpa using hb 12 (by omega) (by omega)),
      ← BitVec.shiftLeft_add, ← BitVec.shiftLeft_add, ← BitVec.shiftLeft_add]
  conv => lhs; rw [e]
  rw [reps_lin d16 d16_lin, e2]

theorem nib32 (s : BitVec 32) : reps d32 4 s = (s >>> 4) ^^^ reps d32 4 (s &&& 15#32) := by
  have hm : ∀ i, i < 32 → (15#32).getLsbD i = decide (i < 4) := by decide
  have hm2 : ∀ i, i < 32 → (0xfffffff0#32).getLsbD i = !decide (i < 4) := by decide
  have e : s = (s &&& 0xfffffff0#32) ^^^ (s &&& 15#32) := by
    apply BitVec.eq_of_getLsbD_eq
    intro i hi
    simp only [BitVec.getLsbD_xor, BitVec.getLsbD_and, hm i hi, hm2 i hi]
    by_cases h : i < 4 <;> simp [h]
  have e2 : reps d32 4 (s &&& 0xfffffff0#32) = s >>> 4 := by
    have hb : ∀ i, i < 4 → (s &&& 0xfffffff0#32).getLsbD i = false := by
      intro i hi
      simp [BitVec.getLsbD_and, hm2 i (by omega), hi]
    have e3 : s >>> 4 = (s &&& 0xfffffff0#32) >>> 4 := by
      apply BitVec.eq_of_getLsbD_eq
      intro i hi
      simp only [BitVec.getLsbD_ushiftRight, BitVec.getLsbD_and]
      by_cases h : 4 + i < 32
      · rw [hm2 (4 + i) h]
        simp
      · rw [BitVec.getLsbD_of_ge s (4 + i) (by omega)]
        simp
    rw [e3]
    generalize hx : s &&& 0xfffffff0#32 = x at hb
    show d32 (d32 (d32 (d32 x))) = _
    rw [d32_high x (hb 0 (by omega)), d32_high (x >>> 1) (by simpa using hb 1 (by omega)), d32_high (x >>> 1 >>> 1) (by simpa using hb 2 (by omega)), d32_high (x >>> 1 >>> 1 >>> 1) (by simpa using hb 3 (by omega)),
      ← BitVec.shiftRight_add, ← BitVec.shiftRight_add, ← BitVec.shiftRight_add]
  conv => lhs; rw [e]
  rw [reps_lin d32 d32_lin, e2]

end Go.Proofs.YtnhfmcijadficaaGreatDoor
