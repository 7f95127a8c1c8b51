/- The walks over nor's small functions: within, isDown, has, act, span, sector. -/
import Derived.Test.YtnhfmcijadficaaGreatDoorZab
import Derived.Outline
import Derived.Test.YtnhfmcijadficaaGreatDoorZaa
import Derived.RegionTactic
import Derived.ChangeAlike
import Derived.Deep.QuietTactic
import Derived.BigQuiet
import Derived.BigRegion
import Derived.Deep.OwnRows
namespace Go.Proofs.YtnhfmcijadficaaGreatDoor
set_option maxRecDepth 100000
open Go.RowKit

set_option maxHeartbeats 400000 in
theorem within_any (a b c : Int) (w : World) :
    Calls Tryz.prog 68 #[.int .i64 a, .int .i64 b, .int .i64 c] w fun e w' => e = .returned (.bool (decide (b ≤ a) && decide (a ≤ c))) ∧ w = w' := by
  by_cases h : b ≤ a
  · go_enter Tryz.func68, Tryz.ntmps68
    go_wp2
    go_ret
    simp [h]
  · go_enter Tryz.func68, Tryz.ntmps68
    go_wp2
    go_ret
    simp; omega

theorem isDown_nil (w : World) :
    Calls Tryz.prog 69 #[.pointer none] w fun e w' => e = .returned (.bool true) ∧ w = w' := by
  go_enter Tryz.func69, Tryz.ntmps69
  go_wp2
  go_ret
  exact ⟨rfl, rfl⟩

theorem isDown_any (p : Nat) (up : Bool) (w : World) (h5 : w.cell? ⟨p, 5, none⟩ = some (.bool up)) :
    Calls Tryz.prog 69 #[.pointer (some ⟨p, 0, none⟩)] w fun e w' => e = .returned (.bool (!up)) ∧ w = w' := by
  go_enter Tryz.func69, Tryz.ntmps69
  go_wp2
  go_ret
  exact ⟨rfl, rfl⟩

theorem has_nil (k : Int) (w : World) :
    Calls Tryz.prog 138 #[.pointer none, .int .i64 k] w fun e w' => e = .returned (.bool false) ∧ w = w' := by
  go_enter Tryz.func138, Tryz.ntmps138
  go_wp2
  go_ret
  exact ⟨rfl, rfl⟩

theorem has_any (p eb S : Nat) (k : Int) (w : World) (h4 : w.cell? ⟨p, 4, none⟩ = some (.slice (some ⟨eb, 0, none⟩) S S)) :
    Calls Tryz.prog 138 #[.pointer (some ⟨p, 0, none⟩), .int .i64 k] w fun e w' => e = .returned (.bool (decide (0 ≤ k) && decide (k < S))) ∧ w = w' := by
  by_cases h : 0 ≤ k
  · go_enter Tryz.func138, Tryz.ntmps138
    go_wp2
    go_ret
    simp [h]
  · go_enter Tryz.func138, Tryz.ntmps138
    go_wp2
    go_ret
    simp; omega

set_option maxHeartbeats 1000000 in
theorem act_whole (p : Nat) (fuse n : Int) (w : World) (h6 : w.cell? ⟨p, 6, none⟩ = some (.int .i64 fuse)) (f6 : w.frozen? ⟨p, 6, none⟩ = false) (hf : ¬ fuse = 0)
    (f1 : -9223372036854775808 ≤ fuse) (f2 : fuse ≤ 9223372036854775807) :
    Calls Tryz.prog 34 #[.pointer (some ⟨p, 0, none⟩), .int .i64 n] w fun e w' => e = .returned (.tuple #[.int .i64 n, .int .i64 0]) ∧
      w' = if 0 < fuse then w.setCell ⟨p, 6, none⟩ (.int .i64 (fuse - 1)) else w := by
  have hb : (fuse == 0) = false := by simp [hf]
  by_cases h : 0 < fuse
  · go_enter Tryz.func34, Tryz.ntmps34
    go_wp2
    go_ret2
    simp
  · go_enter Tryz.func34, Tryz.ntmps34
    go_wp2
    go_ret2
    simp

theorem ret_two {k l : IntKind} {a b : Int} (h : a = b) : Ending.returned (.tuple #[.int k a, .int l 5]) = .returned (.tuple #[.int k b, .int l 5]) := by rw [h]

set_option maxHeartbeats 1000000 in
theorem act_torn (p : Nat) (n keep : Int) (w : World) (h6 : w.cell? ⟨p, 6, none⟩ = some (.int .i64 0)) (h5 : w.cell? ⟨p, 5, none⟩ = some (.bool true)) (f5 : w.frozen? ⟨p, 5, none⟩ = false)
    (h7 : w.cell? ⟨p, 7, none⟩ = some (.int .i64 keep)) (n0 : 0 ≤ n) (n1 : n < 9223372036854775807) :
    Calls Tryz.prog 34 #[.pointer (some ⟨p, 0, none⟩), .int .i64 n] w fun e w' => e = .returned (.tuple #[.int .i64 (max keep 0 % (n + 1)), .int .i64 5]) ∧
      w' = w.setCell ⟨p, 5, none⟩ (.bool false) := by
  by_cases hk : keep < 0
  · have hm : max keep 0 % (n + 1) = 0 := by rw [Int.max_eq_right (by omega)]; simp
    rw [hm]
    clear hm
    go_enter Tryz.func34, Tryz.ntmps34
    go_wp2
    go_ret2
    exact ⟨rfl, rfl⟩
  · have hm : max keep 0 % (n + 1) = keep % (n + 1) := by rw [Int.max_eq_left (by omega)]
    rw [hm]
    clear hm
    go_enter Tryz.func34, Tryz.ntmps34
    go_wp2
    go_ret2
    exact ⟨rfl, rfl⟩

/-- How many bytes lie in the flash: this never meets the limits of int. -/
theorem Fl.Ok.sz {fl : Fl} (h : fl.Ok) : fl.S * fl.Z ≤ 4194304 ∧ 64 ≤ fl.S * fl.Z := by
  have h1 : fl.S * fl.Z ≤ 64 * 65536 := Nat.mul_le_mul h.s2 h.z2
  have h2 : 1 * 64 ≤ fl.S * fl.Z := Nat.mul_le_mul h.s1 h.z1
  omega

set_option maxHeartbeats 1000000 in
theorem act_any (p c e : Nat) (fl : Fl) (n : Nat) (w : World) (hf : FlashAt w p c e fl) (hu : fl.up = true) (hn : n ≤ 4611686018427387904) :
    Calls Tryz.prog 34 #[.pointer (some ⟨p, 0, none⟩), .int .i64 (n : Int)] w fun e1 w' => e1 = .returned (.tuple #[.int .i64 (fl.many n : Nat), .int .i64 fl.code]) ∧
      FlashAt w' p c e fl.burn ∧ Only (· = p) w w' := by
  have hc := hf.hd.cell
  have hz := hf.hd.frozen
  by_cases h : fl.fuse = 0
  · have e1 : ((fl.many n : Nat) : Int) = max fl.keep 0 % ((n : Int) + 1) := by
      unfold Fl.many
      rw [if_pos h]
      obtain ⟨m, hm⟩ := Int.eq_ofNat_of_zero_le (Int.le_max_right fl.keep 0)
      rw [hm]
      simp
    have e2 : fl.code = 5 := by simp [Fl.code, h]
    rw [e1, e2]
    refine (act_torn p n fl.keep w (by rw [hc]; simp [Fl.hdr, h]) (by rw [hc]; simp [Fl.hdr, hu]) (hz 5) (by rw [hc]; simp [Fl.hdr]) (by omega) (by omega)).mono fun e1 w' ⟨he, hw⟩ => ?_
    subst hw
    refine ⟨he, ?_, (Only.refl (· = p) w).setCell (p := ⟨p, 5, none⟩) (Or.inl rfl) _⟩
    have hb : fl.burn = { fl with up := false } := by simp [Fl.burn, h]
    rw [hb]
    refine ⟨⟨hf.ok.s1, hf.ok.s2, hf.ok.z1, hf.ok.z2, hf.ok.l1, hf.ok.l2, hf.ok.bl, hf.ok.el, hf.ok.eb, hf.ok.f1, hf.ok.f2, hf.ok.k1, hf.ok.k2⟩, ?_, hf.ce.far (by simpa using hf.pc.symm) _, hf.er.far (by simpa using hf.pe.symm) _⟩
    have h2 := hf.hd.set_ 5 (.bool false)
    simpa [Fl.hdr] using h2
  · have e1 : fl.many n = n := by simp [Fl.many, h]
    have e2 : fl.code = 0 := by simp [Fl.code, h]
    rw [e1, e2]
    refine (act_whole p fl.fuse n w (by rw [hc]; simp [Fl.hdr]) (hz 6) h hf.ok.f1 hf.ok.f2).mono fun e1 w' ⟨he, hw⟩ => ?_
    by_cases h1 : 0 < fl.fuse
    · rw [if_pos h1] at hw
      subst hw
      refine ⟨he, ?_, (Only.refl (· = p) w).setCell (p := ⟨p, 6, none⟩) (Or.inl rfl) _⟩
      have hb : fl.burn = { fl with fuse := fl.fuse - 1 } := by simp [Fl.burn, h, h1]
      rw [hb]
      refine ⟨⟨hf.ok.s1, hf.ok.s2, hf.ok.z1, hf.ok.z2, hf.ok.l1, hf.ok.l2, hf.ok.bl, hf.ok.el, hf.ok.eb, by show _ ≤ fl.fuse - 1; omega, by have := hf.ok.f2; show fl.fuse - 1 ≤ _; omega, hf.ok.k1, hf.ok.k2⟩, ?_, hf.ce.far (by simpa using hf.pc.symm) _, hf.er.far (by simpa using hf.pe.symm) _⟩
      have h2 := hf.hd.set_ 6 (.int .i64 (fl.fuse - 1))
      simpa [Fl.hdr] using h2
    · rw [if_neg h1] at hw
      subst hw
      have hb : fl.burn = fl := by simp [Fl.burn, h, h1]
      rw [hb]
      exact ⟨he, hf, Only.refl _ _⟩

theorem span_down (p : Nat) (a n : Int) (w : World) (h5 : w.cell? ⟨p, 5, none⟩ = some (.bool false)) :
    Calls Tryz.prog 33 #[.pointer (some ⟨p, 0, none⟩), .int .i64 a, .int .i64 n] w fun e w' => e = .returned (.tuple #[.slice none 0 0, .int .i64 5]) ∧ w = w' := by
  go_enter Tryz.func33, Tryz.ntmps33
  go_wp2
  go_ret2
  exact ⟨rfl, rfl⟩

theorem span_nil (a n : Int) (w : World) :
    Calls Tryz.prog 33 #[.pointer none, .int .i64 a, .int .i64 n] w fun e w' => e = .returned (.tuple #[.slice none 0 0, .int .i64 5]) ∧ w = w' := by
  go_enter Tryz.func33, Tryz.ntmps33
  go_wp2
  go_ret2
  exact ⟨rfl, rfl⟩

theorem span_out (p cb T : Nat) (a n : Int) (w : World) (h5 : w.cell? ⟨p, 5, none⟩ = some (.bool true)) (h3 : w.cell? ⟨p, 3, none⟩ = some (.slice (some ⟨cb, 0, none⟩) T T)) (hT : T ≤ 4194304)
    (a2 : a ≤ 9223372036854775807) (n2 : n ≤ 9223372036854775807) (h : a < 0 ∨ n < 0 ∨ (T : Int) < a + n) :
    Calls Tryz.prog 33 #[.pointer (some ⟨p, 0, none⟩), .int .i64 a, .int .i64 n] w fun e w' => e = .returned (.tuple #[.slice none 0 0, .int .i64 2]) ∧ w = w' := by
  by_cases ha : a < 0
  · go_enter Tryz.func33, Tryz.ntmps33
    go_wp2
    go_ret2
    exact ⟨rfl, rfl⟩
  · by_cases hn : n < 0
    · go_enter Tryz.func33, Tryz.ntmps33
      go_wp2
      go_ret2
      exact ⟨rfl, rfl⟩
    · have h' : (T : Int) - a < n := by omega
      clear h
      go_enter Tryz.func33, Tryz.ntmps33
      go_wp2
      go_ret2
      exact ⟨rfl, rfl⟩

set_option maxHeartbeats 1000000 in
theorem span_in (p cb T a n : Nat) (w : World) (h5 : w.cell? ⟨p, 5, none⟩ = some (.bool true)) (h3 : w.cell? ⟨p, 3, none⟩ = some (.slice (some ⟨cb, 0, none⟩) T T)) (hT : T ≤ 4194304)
    (h : a + n ≤ T) :
    Calls Tryz.prog 33 #[.pointer (some ⟨p, 0, none⟩), .int .i64 (a : Int), .int .i64 (n : Int)] w fun e w' => e = .returned (.tuple #[.slice (some ⟨cb, if n = 0 then 0 else a, none⟩) n n, .int .i64 0]) ∧ w = w' := by
  have h1 : ¬ (a : Int) < 0 := by omega
  have h2 : ¬ (n : Int) < 0 := by omega
  have h4 : (n : Int) ≤ (T : Int) - a := by omega
  by_cases h0 : n = 0
  · subst h0
    go_enter Tryz.func33, Tryz.ntmps33
    go_wp2
    go_ret2
    exact ⟨rfl, rfl⟩
  · rw [if_neg h0]
    go_enter Tryz.func33, Tryz.ntmps33
    go_wp2
    go_ret2
    exact ⟨rfl, rfl⟩

end Go.Proofs.YtnhfmcijadficaaGreatDoor

/- Bytes written one by one: the words, and the walk over nor.fill. -/
namespace Go.Proofs.YtnhfmcijadficaaGreatDoor
set_option maxRecDepth 100000
open Go.RowKit

/-- One byte more has turned. -/
theorem set_mapIdx (bs : List UInt8) (f g : Nat → UInt8 → UInt8) (i : Nat) (v : UInt8) (hv : ∀ b, bs[i]? = some b → g i b = v) (ho : ∀ j b, j ≠ i → g j b = f j b) : (bs.mapIdx f).set i v = bs.mapIdx g := by
  apply List.ext_getElem?
  intro j
  rw [List.getElem?_set, List.getElem?_mapIdx, List.getElem?_mapIdx]
  by_cases h : i = j
  · subst h
    rw [if_pos rfl]
    rcases hb : bs[i]? with _ | b
    · simp
      rw [List.getElem?_eq_none_iff] at hb
      exact hb
    · have hl : i < bs.length := (List.getElem?_eq_some_iff.1 hb).1
      simp [hl, hv b hb]
  · rw [if_neg h]
    rcases hb : bs[j]? with _ | b
    · rfl
    · simp [ho j b (fun e => h e.symm)]

theorem mapIdx_id (bs : List UInt8) (f : Nat → UInt8 → UInt8) (h : ∀ i b, bs[i]? = some b → f i b = b) : bs.mapIdx f = bs := by
  apply List.ext_getElem?
  intro j
  rw [List.getElem?_mapIdx]
  rcases hb : bs[j]? with _ | b
  · rfl
  · simp [h j b hb]

/-- From off on k bytes are 255. -/
def fillF (off k : Nat) : Nat → UInt8 → UInt8 := fun i b => if off ≤ i ∧ i < off + k then 255 else b

theorem fillF_step (bs : List UInt8) (off k : Nat) : (bs.mapIdx (fillF off k)).set (off + k) 255 = bs.mapIdx (fillF off (k + 1)) := by
  apply set_mapIdx
  · intro b _
    simp [fillF]
  · intro j b hj
    unfold fillF
    by_cases h : off ≤ j ∧ j < off + k
    · rw [if_pos h, if_pos (by omega)]
    · rw [if_neg h, if_neg (by omega)]

theorem fillF_zero (bs : List UInt8) (off : Nat) : bs.mapIdx (fillF off 0) = bs :=
  mapIdx_id _ _ fun i b _ => by unfold fillF; rw [if_neg (by omega)]

set_option maxHeartbeats 1000000 in
theorem fill_any (cb off n cap : Nat) (bs : List UInt8) (w : World) (hb : Blk w cb 5 (cellsB bs)) (hl : off + n ≤ bs.length) (hn : n ≤ 4611686018427387904) :
    Calls Tryz.prog 32 #[.slice (some ⟨cb, off, none⟩) n cap] w fun e w' => e = .returned (.tuple #[]) ∧ Blk w' cb 5 (cellsB (bs.mapIdx (fillF off n))) ∧ Only (· = cb) w w' := by
  go_enter Tryz.func32, Tryz.ntmps32
  go_wp2
  go_loopw [5] (fun i wr => ∃ k : Nat, k ≤ n ∧ i = .int .i64 (k : Int) ∧ Blk wr cb 5 (cellsB (bs.mapIdx (fillF off k))) ∧ Only (· = cb) w wr) (fun i _ => n - (intOf i).toNat)
  case atStart => exact ⟨0, Nat.zero_le _, rfl, by rw [fillF_zero]; exact hb, Only.refl _ _⟩
  case round =>
    obtain ⟨k, hk, rfl, hbk, hok⟩ := hrel
    have hcell : k < n → wr.cell? ⟨cb, off + k, none⟩ = some (B8 ((fillF off k) (off + k) (bs[off + k]?.getD 0))) := by
      intro hlt
      rw [hbk.cell, cellsB_get, List.getElem?_mapIdx]
      have h : off + k < bs.length := by omega
      simp [h]
    have hfr := hbk.frozen (off + k)
    go_wp2
    · go_roundw
      case rel => exact ⟨k + 1, by omega, by go_num, by rw [← fillF_step, ← cellsB_set]; exact hbk.set_ _ _, hok.setCell (p := ⟨cb, off + k, none⟩) (Or.inl rfl) _⟩
      case measure => simp [intOf]; omega
    · obtain rfl : k = n := by omega
      go_end0
      exact ⟨rfl, hbk, hok⟩

end Go.Proofs.YtnhfmcijadficaaGreatDoor

/- The walk over (*nor.Flash).Program. -/
namespace Go.Proofs.YtnhfmcijadficaaGreatDoor
set_option maxRecDepth 100000
open Go.RowKit

/-- From o on the bytes xs are laid, k of n of them whole; of the next one the bits that the mask lets go. -/
def progF (o : Nat) (xs : List UInt8) (k : Nat) : Nat → UInt8 → UInt8 := fun i b => if o ≤ i ∧ i < o + k then b &&& (xs[i - o]?.getD 0) else b
def tornF (o : Nat) (xs : List UInt8) (k : Nat) (mask : UInt8) : Nat → UInt8 → UInt8 := fun i b =>
  if o ≤ i ∧ i < o + k then b &&& (xs[i - o]?.getD 0) else if i = o + k ∧ k < xs.length then b &&& ~~~(mask &&& ~~~(xs[k]?.getD 0)) else b

theorem progF_step (bs : List UInt8) (o k : Nat) (xs : List UInt8) : (bs.mapIdx (progF o xs k)).set (o + k) ((bs[o + k]?.getD 0) &&& (xs[k]?.getD 0)) = bs.mapIdx (progF o xs (k + 1)) := by
  apply set_mapIdx
  · intro b hb
    have e : o + k - o = k := by omega
    simp [progF, hb, e]
  · intro j b hj
    unfold progF
    by_cases h : o ≤ j ∧ j < o + k
    · rw [if_pos h, if_pos (by omega)]
    · rw [if_neg h, if_neg (by omega)]
theorem progF_zero (bs : List UInt8) (o : Nat) (xs : List UInt8) : bs.mapIdx (progF o xs 0) = bs :=
  mapIdx_id _ _ fun i b _ => by unfold progF; rw [if_neg (by omega)]
theorem progF_all (bs : List UInt8) (o k : Nat) (xs : List UInt8) (mask : UInt8) (h : ¬ k < xs.length) : bs.mapIdx (progF o xs k) = bs.mapIdx (tornF o xs k mask) := by
  congr 1
  funext i b
  unfold progF tornF
  by_cases h1 : o ≤ i ∧ i < o + k
  · rw [if_pos h1, if_pos h1]
  · rw [if_neg h1, if_neg h1, if_neg (by omega)]
theorem progF_torn (bs : List UInt8) (o k : Nat) (xs : List UInt8) (mask : UInt8) (h : k < xs.length) :
    (bs.mapIdx (progF o xs k)).set (o + k) ((bs[o + k]?.getD 0) &&& ~~~(mask &&& ~~~(xs[k]?.getD 0))) = bs.mapIdx (tornF o xs k mask) := by
  apply set_mapIdx
  · intro b hb
    unfold tornF
    rw [if_neg (by omega), if_pos ⟨rfl, h⟩, hb]
    rfl
  · intro j b hj
    unfold progF tornF
    by_cases h1 : o ≤ j ∧ j < o + k
    · rw [if_pos h1, if_pos h1]
    · rw [if_neg h1, if_neg h1, if_neg (by omega)]

/-- No bit of xs is 1 where the flash's is 0. -/
def Fits (bs : List UInt8) (o : Nat) (xs : List UInt8) : Prop := ∀ j, j < xs.length → (xs[j]?.getD 0) &&& ~~~(bs[o + j]?.getD 0) = 0
instance (bs : List UInt8) (o : Nat) (xs : List UInt8) : Decidable (Fits bs o xs) := by unfold Fits; infer_instance

def Fl.prog (fl : Fl) (o : Nat) (xs : List UInt8) : Fl := { fl.burn with bs := fl.bs.mapIdx (tornF o xs (fl.many xs.length) fl.mask) }

theorem Fl.many_le (fl : Fl) (n : Nat) : fl.many n ≤ n := by
  unfold Fl.many
  split
  · have := Nat.mod_lt (max fl.keep 0).toNat (show 0 < n + 1 by omega)
    omega
  · exact Nat.le_refl _

theorem not_not8 (x : UInt8) : ~~~(~~~x) = x := by
  apply UInt8.toBitVec_inj.1
  show ~~~(~~~x.toBitVec) = x.toBitVec
  exact BitVec.not_not
theorem clear_and (b x : UInt8) : b &&& ~~~(~~~x) = b &&& x := by rw [not_not8]

theorem b_clear (b x : UInt8) : Value.int .u8 (bits .andNot .u8 (b.toNat : Int) (bits .xor .u8 (if IntKind.u8.signed = true then -1 else IntKind.u8.max) (x.toNat : Int))) = B8 (b &&& x) := by
  have e : (if IntKind.u8.signed = true then -1 else IntKind.u8.max) = 255 := by decide
  rw [e, b_xor, b_andNot, not_not8]
  rfl
theorem b_torn (b mask x : UInt8) : Value.int .u8 (bits .andNot .u8 (b.toNat : Int) (bits .andNot .u8 (mask.toNat : Int) (x.toNat : Int))) = B8 (b &&& ~~~(mask &&& ~~~x)) := by
  rw [b_andNot, b_andNot]
  rfl

set_option maxHeartbeats 2000000 in
theorem program_fits (p c e at_ n cap : Nat) (fl : Fl) (xs : List UInt8) (A : Option Addr) (w : World) (hf : FlashAt w p c e fl) (hu : fl.up = true) (hs : ByteSl w (Three p c e) A n cap xs)
    (hin : at_ + n ≤ fl.S * fl.Z) (hfit : Fits fl.bs at_ xs) :
    Calls Tryz.prog 9 #[.pointer (some ⟨p, 0, none⟩), .int .i64 (at_ : Int), .slice A n cap] w fun e1 w' => e1 = .returned (.int .i64 fl.code) ∧
      FlashAt w' p c e (fl.prog at_ xs) ∧ Only (Three p c e) w w' := by
  have hsz := hf.ok.sz
  have hxl := hs.1
  have hnc := hs.2.1
  have hspan := span_in p c (fl.S * fl.Z) at_ n w (by rw [hf.hd.cell]; simp [Fl.hdr, hu]) (by rw [hf.hd.cell]; simp [Fl.hdr]) (by omega) hin
  obtain ⟨o, ho⟩ : ∃ o, o = if n = 0 then 0 else at_ := ⟨_, rfl⟩
  rw [← ho] at hspan
  have Hspan := Lib.hid hspan
  have Ho := Lib.hid ho
  have Hxl := Lib.hid hxl
  have Hu := Lib.hid hu
  clear hspan ho hxl hu
  go_enter Tryz.func9, Tryz.ntmps9
  go_wp2_with fail
  refine Hspan.out.mono ?_
  rintro e1 w1 ⟨rfl, rfl⟩
  go_wp2_with fail
  go_loop [27] (fun i => ∃ k : Nat, k ≤ n ∧ i = .int .i64 (k : Int)) (fun i => n - (intOf i).toNat)
  case atStart => exact ⟨0, Nat.zero_le _, rfl⟩
  case round =>
    obtain ⟨k, hk, rfl⟩ := hrel
    by_cases hlt : k < n
    · obtain ⟨ad, x, rfl, hab, hnS, hx, hxc⟩ := hs.at_ hlt
      have hoa : o = at_ := by rw [Ho.out, if_neg (by omega)]
      subst hoa
      have hcl : o + k < fl.bs.length := by rw [hf.ok.bl]; omega
      have hcc : w.cell? ⟨c, o + k, none⟩ = some (B8 (fl.bs[o + k]?.getD 0)) := by
        rw [hf.ce.cell]
        simp [hcl]
      have hz : (bits .andNot .u8 ((xs[k]?.getD 0).toNat : Int) ((fl.bs[o + k]?.getD 0).toNat : Int) != 0) = false := by
        rw [b_andNot, hfit k (by rw [Hxl.out]; exact hlt)]; rfl
      rw [hx] at hz
      unfold B8 at hxc hcc
      simp only [Option.getD_some] at hz
      generalize fl.bs[o + k]?.getD 0 = cb at hz hcc
      clear hs hf hfit hcl hx
      go_wp2
      go_round
      case rel => exact ⟨k + 1, by omega, by go_num⟩
      case measure => simp [intOf]; omega
    · clear hfit
      have hml := fl.many_le n
      go_wp2_with fail
      refine (act_any p c e fl n w hf Hu.out (by have := hs.2.2.1; unfold maxLen at this; omega)).mono ?_
      rintro e1 w1 ⟨rfl, hf1, ho1⟩
      have hs1 : ByteSl w1 (Three p c e) A n cap xs := hs.only ho1 (by intro i _ hi; exact Or.inl hi)
      obtain ⟨m, hm⟩ : ∃ m, m = fl.many n := ⟨_, rfl⟩
      rw [← hm] at hml ⊢
      have Hm := Lib.hid hm
      clear hm
      go_wp2_with fail
      have hgeo := fl.burn_geo
      go_loopw [51] (fun i wr => ∃ k : Nat, k ≤ m ∧ i = .int .i64 (k : Int) ∧ Blk wr c 5 (cellsB (fl.bs.mapIdx (progF o xs k))) ∧ Only (· = c) w1 wr) (fun i _ => m - (intOf i).toNat)
      case atStart => exact ⟨0, Nat.zero_le _, rfl, by rw [progF_zero]; have := hf1.ce; rw [hgeo.2.2.2.1] at this; exact this, Only.refl _ _⟩
      case round =>
        obtain ⟨k, hk, rfl, hbk, hok⟩ := hrel
        by_cases hlt : k < m
        · obtain ⟨ad, x, rfl, hab, hnS, hx, hxc⟩ := (hs1.only hok (by intro i _ hi; exact Or.inr (Or.inl hi))).at_ (show k < n by omega)
          have hoa : o = at_ := by rw [Ho.out, if_neg (by omega)]
          subst hoa
          have hcl : o + k < fl.bs.length := by rw [hf.ok.bl]; omega
          have hcc : wr.cell? ⟨c, o + k, none⟩ = some (B8 (fl.bs[o + k]?.getD 0)) := by
            rw [hbk.cell, cellsB_get, List.getElem?_mapIdx]
            simp [hcl, progF]
          have hfr := hbk.frozen (o + k)
          have Hbk := Lib.hid hbk
          have Hst := Lib.hid (progF_step fl.bs o k xs)
          have Hx := Lib.hid hx
          clear hs hs1 hf hf1 hbk hcl hx hgeo
          unfold B8 at hxc hcc
          generalize hcb : fl.bs[o + k]?.getD 0 = cb at hcc
          have Hcb := Lib.hid hcb
          clear hcb
          go_wp2
          go_roundw
          case rel =>
            refine ⟨k + 1, by omega, by go_num, ?_, hok.setCell (p := ⟨c, o + k, none⟩) (Or.inl rfl) _⟩
            rw [b_clear, ← Hst.out, ← cellsB_set, Hcb.out, Hx.out]
            exact Hbk.out.set_ _ _
          case measure => simp [intOf]; omega
        · obtain rfl : k = m := by omega
          have hp8 : wr.cell? ⟨p, 8, none⟩ = some (B8 fl.mask) := by
            have h1 := hok.blk hf1.hd hf1.pc
            rw [h1.cell]
            simp [Fl.hdr, fl.burn_rest.1]
          by_cases hmn : k < n
          · obtain ⟨ad, x, rfl, hab, hnS, hx, hxc⟩ := (hs1.only hok (by intro i _ hi; exact Or.inr (Or.inl hi))).at_ hmn
            have hoa : o = at_ := by rw [Ho.out, if_neg (by omega)]
            subst hoa
            have hcl : o + k < fl.bs.length := by rw [hf.ok.bl]; omega
            have hcc : wr.cell? ⟨c, o + k, none⟩ = some (B8 (fl.bs[o + k]?.getD 0)) := by
              rw [hbk.cell, cellsB_get, List.getElem?_mapIdx]
              simp [hcl, progF]
            have hfr := hbk.frozen (o + k)
            have Hbk := Lib.hid hbk
            have Hst := Lib.hid (progF_torn fl.bs o k xs fl.mask (by rw [Hxl.out]; exact hmn))
            have Hx := Lib.hid hx
            have Hf1 := Lib.hid hf1
            clear hs hs1 hf hf1 hbk hcl hx hgeo
            unfold B8 at hxc hcc hp8
            generalize hcb : fl.bs[o + k]?.getD 0 = cb at hcc
            have Hcb := Lib.hid hcb
            clear hcb
            go_wp2
            go_region
            go_wp2
            go_ret
            rw [b_torn]
            refine ⟨rfl, ?_, ?_⟩
            · have hb2 := Hbk.out.set_ (o + k) (B8 (cb &&& ~~~(fl.mask &&& ~~~x)))
              rw [cellsB_set, ← Hcb.out] at hb2
              have hst := Hst.out
              rw [Hx.out] at hst
              rw [Option.getD_some] at hst
              rw [hst] at hb2
              have ho2 := hok.setCell (p := ⟨c, o + k, none⟩) (Or.inl rfl) (B8 (fl.bs[o + k]?.getD 0 &&& ~~~(fl.mask &&& ~~~x)))
              have hfin := Hf1.out.bytes ho2 Hf1.out.pc Hf1.out.cep.symm (by rw [fl.burn_geo.2.2.2.1]; simp) hb2
              rw [Hcb.out] at hfin
              unfold Fl.prog
              rw [Hxl.out, ← Hm.out]
              exact hfin.drew
            · exact (((ho1.mono (T := Three p c e) (fun i _ hi => Or.inl hi)).trans (hok.mono (fun i _ hi => Or.inr (Or.inl hi)))).setCell (p := ⟨c, o + k, none⟩) (Or.inl (Or.inr (Or.inl rfl))) _).drew
          · go_wp2
            go_ret
            refine ⟨rfl, ?_, ?_⟩
            · have hst := progF_all fl.bs o k xs fl.mask (by rw [Hxl.out]; exact hmn)
              rw [hst] at hbk
              have hfin := hf1.bytes hok hf1.pc hf1.cep.symm (by rw [fl.burn_geo.2.2.2.1]; simp) hbk
              have ho3 : fl.bs.mapIdx (tornF o xs k fl.mask) = fl.bs.mapIdx (tornF at_ xs k fl.mask) := by
                by_cases h0 : n = 0
                · have hx0 : xs.length = 0 := by rw [Hxl.out, h0]
                  have hk0 : k = 0 := by omega
                  subst hk0
                  rw [mapIdx_id, mapIdx_id]
                  · intro i b _; unfold tornF; rw [if_neg (by omega), if_neg (by omega)]
                  · intro i b _; unfold tornF; rw [if_neg (by omega), if_neg (by omega)]
                · rw [Ho.out, if_neg h0]
              rw [ho3] at hfin
              unfold Fl.prog
              rw [Hxl.out, ← Hm.out]
              exact hfin
            · exact (ho1.mono (fun i _ hi => Or.inl hi)).trans (hok.mono (fun i _ hi => Or.inr (Or.inl hi)))

theorem program_nil (a : Int) (A : Option Addr) (n cap : Nat) (w : World) :
    Calls Tryz.prog 9 #[.pointer none, .int .i64 a, .slice A n cap] w fun e w' => e = .returned (.int .i64 5) ∧ w = w' := by
  go_enter Tryz.func9, Tryz.ntmps9
  go_wp2_with fail
  refine (span_nil _ _ _).mono ?_
  rintro e1 w1 ⟨rfl, rfl⟩
  go_wp2
  go_ret
  exact ⟨rfl, rfl⟩

theorem program_down (p : Nat) (a : Int) (A : Option Addr) (n cap : Nat) (w : World) (h5 : w.cell? ⟨p, 5, none⟩ = some (.bool false)) :
    Calls Tryz.prog 9 #[.pointer (some ⟨p, 0, none⟩), .int .i64 a, .slice A n cap] w fun e w' => e = .returned (.int .i64 5) ∧ w = w' := by
  go_enter Tryz.func9, Tryz.ntmps9
  go_wp2_with fail
  refine (span_down _ _ _ _ h5).mono ?_
  rintro e1 w1 ⟨rfl, rfl⟩
  go_wp2
  go_ret
  exact ⟨rfl, rfl⟩

theorem program_out (p c e : Nat) (fl : Fl) (a : Int) (A : Option Addr) (n cap : Nat) (w : World) (hf : FlashAt w p c e fl) (hu : fl.up = true) (a2 : a ≤ 9223372036854775807) (hn : n ≤ maxLen)
    (h : a < 0 ∨ ((fl.S * fl.Z : Nat) : Int) < a + n) :
    Calls Tryz.prog 9 #[.pointer (some ⟨p, 0, none⟩), .int .i64 a, .slice A n cap] w fun e w' => e = .returned (.int .i64 2) ∧ w = w' := by
  have hsz := hf.ok.sz
  have hs := span_out p c (fl.S * fl.Z) a n w (by rw [hf.hd.cell]; simp [Fl.hdr, hu]) (by rw [hf.hd.cell]; simp [Fl.hdr]) (by omega) a2 (by unfold maxLen at hn; omega) (by omega)
  have Hs := Lib.hid hs
  clear hs hf hu h
  go_enter Tryz.func9, Tryz.ntmps9
  go_wp2_with fail
  refine Hs.out.mono ?_
  rintro e1 w1 ⟨rfl, rfl⟩
  go_wp2
  go_ret
  exact ⟨rfl, rfl⟩

set_option maxHeartbeats 2000000 in
theorem program_bits (p c e at_ n cap : Nat) (fl : Fl) (xs : List UInt8) (A : Option Addr) (w : World) (hf : FlashAt w p c e fl) (hu : fl.up = true) (hs : ByteSl w (Three p c e) A n cap xs)
    (hin : at_ + n ≤ fl.S * fl.Z) (hfit : ¬ Fits fl.bs at_ xs) :
    Calls Tryz.prog 9 #[.pointer (some ⟨p, 0, none⟩), .int .i64 (at_ : Int), .slice A n cap] w fun e1 w' => e1 = .returned (.int .i64 3) ∧ w = w' := by
  have hsz := hf.ok.sz
  have hxl := hs.1
  have hnc := hs.2.1
  have hspan := span_in p c (fl.S * fl.Z) at_ n w (by rw [hf.hd.cell]; simp [Fl.hdr, hu]) (by rw [hf.hd.cell]; simp [Fl.hdr]) (by omega) hin
  have h0 : ¬ n = 0 := fun h0 => hfit fun j hj => by omega
  rw [if_neg h0] at hspan
  have Hspan := Lib.hid hspan
  have Hxl := Lib.hid hxl
  have Hfit := Lib.hid hfit
  clear hspan hxl hu h0 hfit
  go_enter Tryz.func9, Tryz.ntmps9
  go_wp2_with fail
  refine Hspan.out.mono ?_
  rintro e1 w1 ⟨rfl, rfl⟩
  go_wp2_with fail
  go_loop [27] (fun i => ∃ k : Nat, k ≤ n ∧ i = .int .i64 (k : Int) ∧ ∀ j, j < k → (xs[j]?.getD 0) &&& ~~~(fl.bs[at_ + j]?.getD 0) = 0) (fun i => n - (intOf i).toNat)
  case atStart => exact ⟨0, Nat.zero_le _, rfl, fun j hj => by omega⟩
  case round =>
    obtain ⟨k, hk, rfl, hall⟩ := hrel
    have Hall := Lib.hid hall
    clear hall
    by_cases hlt : k < n
    · obtain ⟨ad, x, rfl, hab, hnS, hx, hxc⟩ := hs.at_ hlt
      have hcl : at_ + k < fl.bs.length := by rw [hf.ok.bl]; omega
      have hcc : w.cell? ⟨c, at_ + k, none⟩ = some (B8 (fl.bs[at_ + k]?.getD 0)) := by
        rw [hf.ce.cell]
        simp [hcl]
      have hgx : xs[k]?.getD 0 = x := by rw [hx]; rfl
      have Hgx := Lib.hid hgx
      unfold B8 at hxc hcc
      by_cases hz : x &&& ~~~(fl.bs[at_ + k]?.getD 0) = 0
      · have hz1 : (bits .andNot .u8 (x.toNat : Int) ((fl.bs[at_ + k]?.getD 0).toNat : Int) != 0) = false := by rw [b_andNot, hz]; rfl
        have Hz := Lib.hid hz
        generalize hgb : fl.bs[at_ + k]?.getD 0 = b at hz1 hcc
        have Hgb := Lib.hid hgb
        clear hgb hz hs hf hcl hx hgx
        go_wp2
        go_round
        case rel =>
          refine ⟨k + 1, by omega, by go_num, fun j hj => ?_⟩
          by_cases hjk : j = k
          · subst hjk; rw [Hgx.out]; exact Hz.out
          · exact Hall.out j (by omega)
        case measure => simp [intOf]; omega
      · have hz1 : (bits .andNot .u8 (x.toNat : Int) ((fl.bs[at_ + k]?.getD 0).toNat : Int) != 0) = true := by
          rw [b_andNot, bne_iff_ne]
          intro h
          apply hz
          apply UInt8.toNat_inj.1
          have h2 : (x &&& ~~~(fl.bs[at_ + k]?.getD 0)).toNat = 0 := by omega
          rw [h2]; rfl
        generalize hgb : fl.bs[at_ + k]?.getD 0 = b at hz1 hcc
        clear hgb hz hs hf hcl hx hgx
        go_wp2
        go_ret
        exact ⟨rfl, rfl⟩
    · exfalso
      apply Hfit.out
      intro j hj
      rw [Hxl.out] at hj
      exact Hall.out j (by omega)

end Go.Proofs.YtnhfmcijadficaaGreatDoor
