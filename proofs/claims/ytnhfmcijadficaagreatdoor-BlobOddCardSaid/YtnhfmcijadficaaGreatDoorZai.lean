/- The walks over bytes.Count (one byte) and page.state. -/
import Derived.Test.YtnhfmcijadficaaGreatDoorZah
import Derived.Shelf.Bytes.SlCountOne
import Derived.Test.YtnhfmcijadficaaGreatDoorZad
import Derived.Test.YtnhfmcijadficaaGreatDoorZab
namespace Go.Proofs.YtnhfmcijadficaaGreatDoor
set_option maxRecDepth 100000
open Go.RowKit

/-- How often the byte c stands among bytes that lie somewhere. -/
theorem count_run (A : Option Addr) (n cap : Nat) (xs : List UInt8) (c : UInt8) (w : World) (hB : ByteSl w Empty A n cap xs) :
    (Extern.BytealgCount.count #[.slice A n cap, .int .u8 (c.toNat : Int)]).run Tryz.prog w = .ok (.int .i64 ((xs.count c : Nat) : Int)) w := by
  have hback : Lib.bytesOf (xs.map fun x => ((x.toNat : Int))) = xs := by
    unfold Lib.bytesOf
    rw [List.map_map]
    conv => rhs; rw [← List.map_id xs]
    apply List.map_congr_left
    intro x _
    apply UInt8.toNat_inj.1
    simp
  by_cases h0 : n = 0
  · subst h0
    have hx : xs = [] := List.eq_nil_of_length_eq_zero hB.1
    subst hx
    rcases A with _ | ad
    · exact Lib.run_countNil w 0 cap _
    · exact Lib.run_countAt w ad 0 cap [] rfl (fun i hi => absurd hi (by omega)) _
  · obtain ⟨ad, rfl, hbl, -, hc⟩ := hB.2.2.2 (by omega)
    have h := Lib.run_countAt (P := Tryz.prog) w ad n cap (xs.map fun x => ((x.toNat : Int))) (by simp [hB.1]) (fun i hi => by
      have hl : i < xs.length := by have := hB.1; omega
      rw [hc i _ (List.getElem?_eq_getElem hl)]
      simp [List.getD, hl, B8]) (c.toNat : Int)
    rw [hback] at h
    have hcc : ((c.toNat : Int)).toNat.toUInt8 = c := by
      apply UInt8.toNat_inj.1
      simp
    rw [hcc] at h
    exact h

set_option maxHeartbeats 1000000 in
theorem count_any (A : Option Addr) (n cap : Nat) (xs : List UInt8) (g : Nat) (w : World) (hB : ByteSl w Empty A n cap xs) (hc : w.cell? ⟨g, 0, none⟩ = some (.int .u8 255)) :
    Calls Tryz.prog 137 #[.slice A n cap, .slice (some ⟨g, 0, none⟩) 1 1] w fun e w' => e = .returned (.int .i64 ((xs.count 255 : Nat) : Int)) ∧ w = w' := by
  have hr : (Extern.BytealgCount.count #[.slice A n cap, .int .u8 255]).run Tryz.prog w = .ok (.int .i64 ((xs.count 255 : Nat) : Int)) w := count_run A n cap xs 255 w hB
  have Hr := Lib.hid hr
  clear hr
  clear hB
  go_enter Tryz.func137, Tryz.ntmps137
  go_wp2
  rw [run_callFunc_extern Tryz.func171 (by kernel_rfl) (by kernel_rfl) (by kernel_rfl) (e := Extern.BytealgCount.count) (by kernel_rfl), Hr.out]
  simp only [Result.andThen]
  rw [Oper.upon_value]
  go_wp2
  go_ret
  exact ⟨rfl, rfl⟩

/-- Do bytes begin with a header that is right, live and not void? -/
def stU (xs : List UInt8) : Bool := decide (parseC xs = 0) && (parseH xs).live && !(parseH xs).void
/-- What state a sector of these bytes has: 2 used, 0 blank, 1 dirty. -/
def stS (xs : List UInt8) : Int := if stU xs = true then 2 else if xs.count 255 = xs.length then 0 else 1
/-- Its number. -/
def stQ (xs : List UInt8) : Int := if stU xs = true then ((parseH xs).seq : Int) else 0
def stV (xs : List UInt8) : Value := .agg #[.int .i64 (stS xs), .int .u32 (stQ xs), .int .i64 0]

set_option maxHeartbeats 4000000 in
theorem state_any (A : Option Addr) (n cap : Nat) (xs : List UInt8) (w : World) (hB : ByteSl w Empty A n cap xs) (hM : Mark w) (hn : n ≤ 1048576) :
    Calls Tryz.prog 110 #[.slice A n cap] w fun e w' => e = .returned (stV xs) ∧ Below w.heap.size w w' := by
  have Hl := Lib.hid hB.1
  obtain ⟨q, l, v, hv⟩ : ∃ (q : Int) (l v : Bool), (parseH xs).v = .agg #[.int .u32 q, .bool l, .bool v] ∧ (parseH xs).live = l ∧ (parseH xs).void = v ∧ ((parseH xs).seq : Int) = q := ⟨_, _, _, rfl, rfl, rfl, rfl⟩
  obtain ⟨c, hc⟩ : ∃ c, parseC xs = c := ⟨_, rfl⟩
  have Hv := Lib.hid hv
  have Hc := Lib.hid hc
  have HB := Lib.hid (hB.only ((Only.refl Empty w).alloc (.cells #[.int .i64 0, .int .u32 0, .int .i64 0] 96)) (fun _ _ h => h))
  have HM := Lib.hid (hM.below ((Below.refl w.heap.size w).alloc (Nat.le_refl _) (.cells #[.int .i64 0, .int .u32 0, .int .i64 0] 96)))
  have Hk0 := Lib.hid (Blk.new w 96 #[.int .i64 0, .int .u32 0, .int .i64 0])
  clear hv hc hB hM
  go_enter Tryz.func110, Tryz.ntmps110
  go_wp2_with fail
  refine (parse_any A n cap xs _ HB.out HM.out hn).mono ?_
  rintro e1 w1 ⟨he, hb1⟩
  rw [Hv.out.1, Hc.out] at he
  subst he
  have Hk1 := Lib.hid (Hk0.out.of (hb1.block w.heap.size (by simp)))
  have Hb1 := Lib.hid ((((Below.refl w.heap.size w).alloc (Nat.le_refl _) (.cells #[.int .i64 0, .int .u32 0, .int .i64 0] 96))).trans (hb1.mono (by simp)))
  have HB1 := Lib.hid ((HB.out.only (Only.of_below (S := Empty) hb1) (fun _ _ h => h)).only ((Only.refl Empty w1).alloc (.cells #[.int .u32 q, .bool l, .bool v] 210)) (fun _ _ h => h))
  have hz1 : w.heap.size < w1.heap.size := Hk1.out.lt
  clear hb1
  have Hk2 := Lib.hid (Hk1.out.alloc (.cells #[.int .u32 q, .bool l, .bool v] 210))
  have c0 := Hk2.out.cell 0
  have c1 := Hk2.out.cell 1
  have c2 := Hk2.out.cell 2
  have f0 := Hk2.out.frozen 0
  have f1 := Hk2.out.frozen 1
  have f2 := Hk2.out.frozen 2
  have d0 := Hk1.out.cell 0
  have d1 := Hk1.out.cell 1
  have d2 := Hk1.out.cell 2
  have g0 := Hk1.out.frozen 0
  have g1 := Hk1.out.frozen 1
  have g2 := Hk1.out.frozen 2
  simp at c0 c1 c2 d0 d1 d2
  by_cases hu : stU xs = true
  · have hu2 := hu
    unfold stU at hu2
    rw [Hc.out, Hv.out.2.1, Hv.out.2.2.1] at hu2
    simp at hu2
    obtain ⟨⟨rfl, rfl⟩, rfl⟩ := hu2
    have Hu := Lib.hid hu
    clear hu
    go_wp2
    refine bodyPost_ret (v := .agg #[.int .i64 2, .int .u32 q, .int .i64 0]) (by simp [results, Tryz.results110, go_sem, d0, d1, d2, hz1]) rfl ⟨?_, ?_⟩
    · rw [stV, stS, stQ, if_pos Hu.out, if_pos Hu.out, Hv.out.2.2.2]
    · exact ((((Hb1.out.setCell (by simp) _).setCell (by simp) _).setCell (by simp) _).alloc (by have := Hb1.out.size; simp [World.setCell]; omega) _)
  · have hu2 : (c == 0 && l && !v) = false := by
      have h : stU xs = false := by simpa using hu
      unfold stU at h
      rw [Hc.out, Hv.out.2.1, Hv.out.2.2.1] at h
      rw [← h]
      congr 2
    have Hu := Lib.hid hu
    clear hu
    have hB2 := HB1.out.only ((Only.refl Empty _).alloc (.cells #[.int .u8 255] 5)) (fun _ _ h => h)
    have HB2 := Lib.hid hB2
    have hcnt : xs.count 255 ≤ xs.length := List.count_le_length
    have hxl := Hl.out
    obtain ⟨k, hk⟩ : ∃ k, xs.count 255 = k := ⟨_, rfl⟩
    rw [hk] at hcnt
    have Hk := Lib.hid hk
    have hkn : k ≤ n := by omega
    clear hB2 hcnt hk hxl
    have hway : ((c == 0) = false) ∨ (c = 0 ∧ l = false) ∨ (c = 0 ∧ l = true ∧ v = true) := by
      by_cases h : c = 0
      · subst h
        cases l <;> cases v <;> simp_all
      · exact Or.inl (by simpa using h)
    have hend : Hid (stV xs = .agg #[.int .i64 (if k = n then 0 else 1), .int .u32 0, .int .i64 0]) := Lib.hid (by rw [stV, stS, stQ, if_neg Hu.out, if_neg Hu.out, Hk.out, Hl.out])
    clear hu2 Hc Hv
    by_cases hkk : k = n
    · rw [if_pos hkk] at hend
      subst hkk
      have heq : ((k : Int) == (k : Int)) = true := by simp
      rcases hway with hq | ⟨rfl, rfl⟩ | ⟨rfl, rfl, rfl⟩
      all_goals
        go_wp2_with fail
        refine (count_any A k cap xs (w1.heap.size + 1) _ HB2.out (by go_simp)).mono ?_
        rintro e1 w2 ⟨rfl, rfl⟩
        rw [Hk.out]
        go_wp2
        refine bodyPost_ret (v := .agg #[.int .i64 0, .int .u32 0, .int .i64 0]) (by simp [results, Tryz.results110, go_sem, d0, d1, d2, hz1]) rfl ⟨by rw [hend.out], ?_⟩
        exact (((((Hb1.out.setCell (by simp) _).setCell (by simp) _).setCell (by simp) _).alloc (by have := Hb1.out.size; simp [World.setCell]; omega) _).alloc (by have := Hb1.out.size; simp [World.setCell]; omega) _)
    · rw [if_neg hkk] at hend
      have heq : ((k : Int) == (n : Int)) = false := by rw [beq_eq_false_iff_ne]; omega
      rcases hway with hq | ⟨rfl, rfl⟩ | ⟨rfl, rfl, rfl⟩
      all_goals
        go_wp2_with fail
        refine (count_any A n cap xs (w1.heap.size + 1) _ HB2.out (by go_simp)).mono ?_
        rintro e1 w2 ⟨rfl, rfl⟩
        rw [Hk.out]
        go_wp2
        refine bodyPost_ret (v := .agg #[.int .i64 1, .int .u32 0, .int .i64 0]) (by simp [results, Tryz.results110, go_sem, d0, d1, d2, hz1]) rfl ⟨by rw [hend.out], ?_⟩
        exact (((((Hb1.out.setCell (by simp) _).setCell (by simp) _).setCell (by simp) _).alloc (by have := Hb1.out.size; simp [World.setCell]; omega) _).alloc (by have := Hb1.out.size; simp [World.setCell]; omega) _)

end Go.Proofs.YtnhfmcijadficaaGreatDoor

/- One sector of a flash that is up and has no fuse: its bytes, and what nor's calls do to them. -/
namespace Go.Proofs.YtnhfmcijadficaaGreatDoor
set_option maxRecDepth 100000
open Go.RowKit

theorem splice_get (L : List UInt8) (o : Nat) (cs : List UInt8) (j : Nat) (h : o + cs.length ≤ L.length) : (splice L o cs)[j]? = if o ≤ j ∧ j < o + cs.length then cs[j - o]? else L[j]? := by
  unfold splice
  have ho : (L.take o).length = o := by rw [List.length_take]; omega
  by_cases h1 : j < o
  · rw [if_neg (by omega), List.getElem?_append_left (by omega), List.getElem?_take, if_pos h1]
  · rw [List.getElem?_append_right (by omega), ho]
    by_cases h2 : j < o + cs.length
    · rw [if_pos (by omega), List.getElem?_append_left (by omega)]
    · rw [if_neg (by omega), List.getElem?_append_right (by omega), List.getElem?_drop]
      congr 1
      omega

/-- The bytes of sector k. -/
def secB (bs : List UInt8) (k Z : Nat) : List UInt8 := (bs.drop (k * Z)).take Z
theorem secB_get (bs : List UInt8) (k Z j : Nat) (h : j < Z) : (secB bs k Z)[j]? = bs[k * Z + j]? := by
  unfold secB
  rw [List.getElem?_take, if_pos h, List.getElem?_drop]
theorem secB_len (bs : List UInt8) (k Z : Nat) (h : k * Z + Z ≤ bs.length) : (secB bs k Z).length = Z := by
  unfold secB
  rw [List.length_take, List.length_drop]
  omega

theorem secB_prog (bs : List UInt8) (k Z o : Nat) (ys : List UInt8) (mask : UInt8) (hl : k * Z + Z ≤ bs.length) (ho : o + ys.length ≤ Z) (hf : Fits (secB bs k Z) o ys) :
    secB (bs.mapIdx (tornF (k * Z + o) ys ys.length mask)) k Z = splice (secB bs k Z) o ys := by
  apply List.ext_getElem?
  intro j
  rw [splice_get _ _ _ _ (by rw [secB_len _ _ _ hl]; exact ho)]
  by_cases hj : j < Z
  · rw [secB_get _ _ _ _ hj, List.getElem?_mapIdx]
    have hb : k * Z + j < bs.length := by omega
    rw [List.getElem?_eq_getElem hb]
    simp only [Option.map_some]
    unfold tornF
    by_cases h1 : o ≤ j ∧ j < o + ys.length
    · rw [if_pos h1, if_pos (by omega)]
      have hyj : j - o < ys.length := by omega
      have h := hf (j - o) hyj
      rw [show o + (j - o) = j by omega, secB_get _ _ _ _ hj, List.getElem?_eq_getElem hb, List.getElem?_eq_getElem hyj] at h
      simp only [Option.getD_some] at h
      rw [show k * Z + j - (k * Z + o) = j - o by omega, List.getElem?_eq_getElem hyj, Option.getD_some, and_fit h]
    · rw [if_neg h1, if_neg (by omega), if_neg (by omega), secB_get _ _ _ _ hj, List.getElem?_eq_getElem hb]
  · rw [if_neg (by omega), List.getElem?_eq_none (by rw [secB_len _ _ _ (by rw [List.length_mapIdx]; exact hl)]; omega), List.getElem?_eq_none (by rw [secB_len _ _ _ hl]; omega)]

theorem secB_erase (bs : List UInt8) (k Z q : Nat) (mask : UInt8) (hl : k * Z + Z ≤ bs.length) : secB (bs.mapIdx (eraseF (k * Z) q Z mask)) k Z = (secB bs k Z).mapIdx (eraseF 0 q Z mask) := by
  apply List.ext_getElem?
  intro j
  by_cases hj : j < Z
  · rw [secB_get _ _ _ _ hj, List.getElem?_mapIdx, List.getElem?_mapIdx, secB_get _ _ _ _ hj]
    have hb : k * Z + j < bs.length := by omega
    rw [List.getElem?_eq_getElem hb]
    simp only [Option.map_some]
    congr 1
    have a1 : (k * Z ≤ k * Z + j ∧ k * Z + j < k * Z + q) = (0 ≤ j ∧ j < 0 + q) := by apply propext; constructor <;> intro h <;> omega
    have a2 : (k * Z + j = k * Z + q ∧ q < Z) = (j = 0 + q ∧ q < Z) := by apply propext; constructor <;> intro h <;> omega
    unfold eraseF
    simp only [a1, a2]
  · rw [List.getElem?_eq_none (by rw [secB_len _ _ _ (by rw [List.length_mapIdx]; exact hl)]; omega), List.getElem?_eq_none (by rw [List.length_mapIdx, secB_len _ _ _ hl]; omega)]
theorem erase_whole (xs : List UInt8) (mask : UInt8) : xs.mapIdx (eraseF 0 xs.length xs.length mask) = List.replicate xs.length 255 := by
  apply List.ext_getElem?
  intro j
  rw [List.getElem?_mapIdx, List.getElem?_replicate]
  by_cases hj : j < xs.length
  · rw [List.getElem?_eq_getElem hj, if_pos hj]
    simp only [Option.map_some]
    unfold eraseF
    rw [if_pos (by omega)]
  · rw [List.getElem?_eq_none (by omega), if_neg hj]
    rfl

/-- A flash that is up and has no fuse, of this geometry; sector k was erased m times and has the bytes xs. -/
def Sec (w : World) (p c e S Z L k m : Nat) (xs : List UInt8) : Prop :=
  ∃ fl : Fl, FlashAt w p c e fl ∧ fl.up = true ∧ fl.fuse = -1 ∧ fl.S = S ∧ fl.Z = Z ∧ fl.L = L ∧ fl.er[k]? = some m ∧ secB fl.bs k Z = xs

section
variable {w w' : World} {p c e S Z L k m : Nat} {xs : List UInt8} {T : Nat → Prop}
theorem Sec.of (h : Sec w p c e S Z L k m xs) (o : Only T w w') (hp : ¬ T p) (hc : ¬ T c) (he : ¬ T e) : Sec w' p c e S Z L k m xs := by
  obtain ⟨fl, hf, r⟩ := h
  exact ⟨fl, hf.of o hp hc he, r⟩
theorem Sec.below (h : Sec w p c e S Z L k m xs) (o : Below w.heap.size w w') : Sec w' p c e S Z L k m xs := h.of (Only.of_below (S := Empty) o) (fun h => h) (fun h => h) (fun h => h)
theorem Sec.kS (h : Sec w p c e S Z L k m xs) : k < S := by
  obtain ⟨fl, hf, _, _, hS, _, _, hm, _⟩ := h
  have := (List.getElem?_eq_some_iff.1 hm).1
  rw [hf.ok.el] at this
  omega
theorem kz_le {S Z k : Nat} (h : k < S) : k * Z + Z ≤ S * Z := by
  have := Nat.mul_le_mul_right Z (show k + 1 ≤ S by omega)
  rw [Nat.add_mul] at this
  omega
theorem Sec.len (h : Sec w p c e S Z L k m xs) : xs.length = Z := by
  have hk := h.kS
  obtain ⟨fl, hf, _, _, hS, hZ, _, hm, hx⟩ := h
  rw [← hx, secB_len]
  have := kz_le (Z := Z) hk
  rw [hf.ok.bl, hS, hZ]
  exact this
theorem Sec.bz (h : Sec w p c e S Z L k m xs) : S ≤ 64 ∧ 64 ≤ Z ∧ Z ≤ 65536 ∧ k * Z + Z ≤ S * Z ∧ S * Z ≤ 4194304 := by
  have hk := h.kS
  obtain ⟨fl, hf, _, _, hS, hZ, _, hm, hx⟩ := h
  have h1 := hf.ok.s2
  have h2 := hf.ok.z1
  have h3 := hf.ok.z2
  have h4 := hf.ok.sz
  rw [hS] at h1
  rw [hZ] at h2 h3
  rw [hS, hZ] at h4
  exact ⟨h1, h2, h3, kz_le hk, h4.1⟩
end

theorem prog_sec (p c e S Z L k m at_ n cap : Nat) (xs ys : List UInt8) (A : Option Addr) (w : World) (hs : Sec w p c e S Z L k m xs) (hb : ByteSl w (Three p c e) A n cap ys) (hin : at_ + n ≤ Z) (hfit : Fits xs at_ ys) :
    Calls Tryz.prog 9 #[.pointer (some ⟨p, 0, none⟩), .int .i64 ((k * Z + at_ : Nat) : Int), .slice A n cap] w fun e1 w' => e1 = .returned (.int .i64 0) ∧ Sec w' p c e S Z L k m (splice xs at_ ys) ∧ Only (Three p c e) w w' := by
  have hz := hs.bz
  obtain ⟨fl, hf, hu, hfu, rfl, rfl, rfl, hm, rfl⟩ := hs
  have hbl := hf.ok.bl
  have hyl := hb.1
  have hkz := hz.2.2.2.1
  refine (program_fits p c e (k * fl.Z + at_) n cap fl ys A w hf hu hb (by omega) ?_).mono fun e1 w' ⟨he, hf2, ho⟩ => ⟨?_, ⟨_, hf2, ?_⟩, ho⟩
  · intro j hj
    have h := hfit j hj
    rw [secB_get _ _ _ _ (by omega)] at h
    rw [Nat.add_assoc]
    exact h
  · rw [he, code_none hfu]
  · unfold Fl.prog
    rw [burn_none hfu, many_none hfu]
    refine ⟨hu, hfu, rfl, rfl, rfl, hm, ?_⟩
    exact secB_prog fl.bs k fl.Z at_ ys fl.mask (by omega) (by omega) hfit

theorem erase_sec (p c e S Z L k m : Nat) (xs : List UInt8) (w : World) (hs : Sec w p c e S Z L k m xs) (hm2 : m < L) :
    Calls Tryz.prog 119 #[.pointer (some ⟨p, 0, none⟩), .int .i64 (k : Int)] w fun e1 w' => e1 = .returned (.int .i64 0) ∧ Sec w' p c e S Z L k (m + 1) (List.replicate Z 255) ∧ Only (Three p c e) w w' := by
  have hz := hs.bz
  have hk := hs.kS
  have hl := hs.len
  obtain ⟨fl, hf, hu, hfu, rfl, rfl, rfl, hm, rfl⟩ := hs
  have hbl := hf.ok.bl
  have hel := hf.ok.el
  have hkz := hz.2.2.2.1
  refine (erase_in p c e k m fl w hf hu hm hm2).mono fun e1 w' ⟨he, hf2, ho⟩ => ⟨?_, ⟨_, hf2, ?_⟩, ho⟩
  · rw [he, code_none hfu]
  · unfold Fl.erased
    rw [burn_none hfu, many_none hfu]
    refine ⟨hu, hfu, rfl, rfl, rfl, ?_, ?_⟩
    · show (fl.er.set k ((fl.er[k]?.getD 0) + 1))[k]? = some (m + 1)
      rw [List.getElem?_set, if_pos rfl, hm, if_pos (by omega)]
      rfl
    · show secB (fl.bs.mapIdx (eraseF (k * fl.Z) fl.Z fl.Z fl.mask)) k fl.Z = _
      rw [secB_erase _ _ _ _ _ (by omega)]
      have h := erase_whole (secB fl.bs k fl.Z) fl.mask
      rw [hl] at h
      exact h

/-- Behind a fuse of no acts, an erase and a reset. -/
theorem torn_sec {p c e S Z L k m : Nat} {xs : List UInt8} {w w' : World} (hs : Sec w p c e S Z L k m xs) (kk : Int) (mk : UInt8) (fl : Fl) (hfl : fl.S = S ∧ fl.Z = Z ∧ fl.L = L ∧ fl.er[k]? = some m ∧ secB fl.bs k Z = xs)
    (hf : FlashAt w' p c e (((fl.fused 0 kk mk).erased k).reset)) : ∃ q, q ≤ Z ∧ Sec w' p c e S Z L k (m + 1) (xs.mapIdx (eraseF 0 q Z mk)) := by
  have hz := hs.bz
  have hk := hs.kS
  have hok := hf.ok
  obtain ⟨rfl, rfl, rfl, hm, rfl⟩ := hfl
  have hg := (fl.fused 0 kk mk).burn_geo
  have hr := (fl.fused 0 kk mk).burn_rest
  refine ⟨(fl.fused 0 kk mk).many fl.Z, Fl.many_le _ _, _, hf, rfl, rfl, ?_, ?_, ?_, ?_, ?_⟩
  · exact hg.1
  · exact hg.2.1
  · exact hg.2.2.1
  · show (fl.er.set k ((fl.er[k]?.getD 0) + 1))[k]? = some (m + 1)
    have := (List.getElem?_eq_some_iff.1 hm).1
    rw [List.getElem?_set, if_pos rfl, hm, if_pos (by omega)]
    rfl
  · have hbl : (fl.bs.mapIdx (eraseF (k * fl.Z) ((fl.fused 0 kk mk).many fl.Z) fl.Z mk)).length = (((fl.fused 0 kk mk).erased k).reset).S * (((fl.fused 0 kk mk).erased k).reset).Z := hok.bl
    rw [List.length_mapIdx] at hbl
    have h1 : (((fl.fused 0 kk mk).erased k).reset).S = fl.S := hg.1
    have h2 : (((fl.fused 0 kk mk).erased k).reset).Z = fl.Z := hg.2.1
    rw [h1, h2] at hbl
    exact secB_erase fl.bs k fl.Z _ mk (by have := hz.2.2.2.1; omega)

end Go.Proofs.YtnhfmcijadficaaGreatDoor

/- The walks over page's calls, told of one sector: start, setFlag, Void, Look. -/
namespace Go.Proofs.YtnhfmcijadficaaGreatDoor
set_option maxRecDepth 100000
open Go.RowKit

set_option maxHeartbeats 1000000 in
theorem start_sec (p c e S Z L k m : Nat) (xs : List UInt8) (w : World) (hs : Sec w p c e S Z L k m xs) :
    Calls Tryz.prog 109 #[.pointer (some ⟨p, 0, none⟩), .int .i64 (k : Int)] w fun e1 w' => e1 = .returned (.int .i64 ((k * Z : Nat) : Int)) ∧ Below w.heap.size w w' := by
  have hz := hs.bz
  obtain ⟨fl, hf, -, -, rfl, rfl, rfl, -, -⟩ := hs
  have hg := geo_field1 (fl.S : Int) (fl.Z : Int) (fl.L : Int)
  have hmul : IntKind.i64.wrap ((k : Int) * (fl.Z : Int)) = ((k * fl.Z : Nat) : Int) := by
    have : (k : Int) * (fl.Z : Int) = ((k * fl.Z : Nat) : Int) := by simp
    rw [this, IntKind.wrap_i64]
    omega
  obtain ⟨T, hT⟩ : ∃ T, T = k * fl.Z := ⟨_, rfl⟩
  rw [← hT] at hmul ⊢
  have HF := Lib.hid hf
  clear hf hz hT
  go_enter Tryz.func109, Tryz.ntmps109
  go_wp2_with fail
  refine (geometry_any p c e fl _ HF.out).mono ?_
  rintro e1 w1 ⟨rfl, hb1⟩
  go_wp2
  go_ret
  exact ⟨rfl, hb1⟩

set_option maxHeartbeats 1000000 in
theorem setFlag_sec (p c e S Z L k m at_ : Nat) (xs : List UInt8) (w : World) (hs : Sec w p c e S Z L k m xs) (ha : at_ < 64) :
    Calls Tryz.prog 144 #[.pointer (some ⟨p, 0, none⟩), .int .i64 (k : Int), .int .i64 (at_ : Int)] w fun e1 w' => e1 = .returned (.int .i64 0) ∧ Sec w' p c e S Z L k m (splice xs at_ [0]) ∧ Only (Three p c e) w w' := by
  have hz := hs.bz
  have HS := Lib.hid hs
  have hp : ∀ W, Sec W p c e S Z L k m xs → Calls Tryz.prog 9 #[.pointer (some ⟨p, 0, none⟩), .int .i64 (((k * Z : Nat) : Int) + (at_ : Int)), .slice (some ⟨W.heap.size, 0, none⟩) 1 1] (W.alloc (.cells #[.int .u8 0] 5)) fun e1 w' =>
      e1 = .returned (.int .i64 0) ∧ Sec w' p c e S Z L k m (splice xs at_ [0]) ∧ Only (Three p c e) (W.alloc (.cells #[.int .u8 0] 5)) w' := fun W hW => by
    have hlt : ¬ Three p c e W.heap.size := by
      obtain ⟨fl, hf, _⟩ := hW
      have h1 := hf.hd.lt
      have h2 := hf.ce.lt
      have h3 := hf.er.lt
      intro h
      rcases h with h | h | h <;> omega
    have h := prog_sec p c e S Z L k m at_ 1 1 xs [0] (some ⟨W.heap.size, 0, none⟩) _ (hW.of ((Only.refl Empty W).alloc (.cells #[.int .u8 0] 5)) (fun h => h) (fun h => h) (fun h => h))
      (ByteSl.lit W (Three p c e) [0] 1 rfl hlt (by decide)) (by omega) (by
        intro j hj
        have hj0 : j = 0 := by simp at hj; exact hj
        subst hj0
        simp)
    rw [show ((k * Z + at_ : Nat) : Int) = ((k * Z : Nat) : Int) + (at_ : Int) by simp] at h
    exact h
  have Hp := Lib.hid hp
  clear hs hp
  go_enter Tryz.func144, Tryz.ntmps144
  go_wp2_with fail
  refine (start_sec p c e S Z L k m xs _ HS.out).mono ?_
  rintro e1 w1 ⟨rfl, hb1⟩
  have HS1 := Lib.hid (HS.out.below hb1)
  have Hb1 := Lib.hid hb1
  have hT : k * Z ≤ 4194304 := by omega
  have Hp1 := Lib.hid (Hp.out w1 HS1.out)
  clear hb1 hz Hp
  obtain ⟨T, hTe⟩ : ∃ T, T = k * Z := ⟨_, rfl⟩
  rw [← hTe] at hT Hp1 ⊢
  clear hTe
  go_wp2_with fail
  refine Hp1.out.mono ?_
  rintro e1 w2 ⟨rfl, hs2, ho2⟩
  have HE := Lib.hid (And.intro hs2 (((Only.of_below (S := Three p c e) Hb1.out).alloc (.cells #[.int .u8 0] 5)).trans ho2))
  clear hs2 ho2
  go_wp2
  go_ret
  exact ⟨rfl, HE.out⟩

theorem Sec.has (p c e S Z L k m : Nat) (xs : List UInt8) (w : World) (hs : Sec w p c e S Z L k m xs) :
    Calls Tryz.prog 107 #[.pointer (some ⟨p, 0, none⟩), .int .i64 (k : Int)] w fun e w' => e = .returned (.bool true) ∧ Below w.heap.size w w' := by
  have hk := hs.kS
  obtain ⟨fl, hf, _, _, rfl, _⟩ := hs
  refine (pgHas_any p c e fl k w hf).mono fun e1 w' ⟨he, hb⟩ => ⟨?_, hb⟩
  rw [he]
  simp [hk]
theorem Sec.has_not (p c e S Z L k m : Nat) (xs : List UInt8) (j : Int) (w : World) (hs : Sec w p c e S Z L k m xs) (hj : j < 0 ∨ (S : Int) ≤ j) :
    Calls Tryz.prog 107 #[.pointer (some ⟨p, 0, none⟩), .int .i64 j] w fun e w' => e = .returned (.bool false) ∧ Below w.heap.size w w' := by
  obtain ⟨fl, hf, _, _, rfl, _⟩ := hs
  refine (pgHas_any p c e fl j w hf).mono fun e1 w' ⟨he, hb⟩ => ⟨?_, hb⟩
  rw [he]
  congr 2
  simp
  omega

set_option maxHeartbeats 1000000 in
theorem void_sec (p c e S Z L k m : Nat) (xs : List UInt8) (w : World) (hs : Sec w p c e S Z L k m xs) :
    Calls Tryz.prog 118 #[.pointer (some ⟨p, 0, none⟩), .int .i64 (k : Int)] w fun e1 w' => e1 = .returned (.int .i64 0) ∧ Sec w' p c e S Z L k m (splice xs 9 [0]) ∧ Only (Three p c e) w w' := by
  have HS := Lib.hid hs
  clear hs
  go_enter Tryz.func118, Tryz.ntmps118
  go_wp2_with fail
  refine (Sec.has p c e S Z L k m xs _ HS.out).mono ?_
  rintro e1 w1 ⟨rfl, hb1⟩
  have HS1 := Lib.hid (HS.out.below hb1)
  have Hb1 := Lib.hid hb1
  clear hb1
  go_wp2_with fail
  refine (setFlag_sec p c e S Z L k m 9 xs _ HS1.out (by omega)).mono ?_
  rintro e1 w2 ⟨rfl, hs2, ho2⟩
  have HE := Lib.hid (And.intro hs2 ((Only.of_below (S := Three p c e) Hb1.out).trans ho2))
  clear hs2 ho2
  go_wp2
  go_ret
  exact ⟨rfl, HE.out⟩

set_option maxHeartbeats 1000000 in
theorem void_out (p c e S Z L k m : Nat) (xs : List UInt8) (j : Int) (w : World) (hs : Sec w p c e S Z L k m xs) (hj : j < 0 ∨ (S : Int) ≤ j) :
    Calls Tryz.prog 118 #[.pointer (some ⟨p, 0, none⟩), .int .i64 j] w fun e1 w' => e1 = .returned (.int .i64 2) ∧ Below w.heap.size w w' := by
  have HS := Lib.hid hs
  have Hj := Lib.hid hj
  clear hs hj
  go_enter Tryz.func118, Tryz.ntmps118
  go_wp2_with fail
  refine (Sec.has_not p c e S Z L k m xs j _ HS.out Hj.out).mono ?_
  rintro e1 w1 ⟨rfl, hb1⟩
  go_wp2
  go_ret
  exact ⟨rfl, hb1⟩

theorem Sec.read (p c e S Z L k m : Nat) (xs : List UInt8) (w : World) (hs : Sec w p c e S Z L k m xs) :
    Calls Tryz.prog 108 #[.pointer (some ⟨p, 0, none⟩), .int .i64 ((k * Z : Nat) : Int), .int .i64 (Z : Int)] w fun e1 w' => ReadOk w w' Z xs e1 := by
  have hz := hs.bz
  obtain ⟨fl, hf, hu, -, rfl, rfl, rfl, -, rfl⟩ := hs
  exact read_in p c e (k * fl.Z) fl.Z fl w hf hu hz.2.2.2.1
theorem Sec.erases (p c e S Z L k m : Nat) (xs : List UInt8) (w : World) (hs : Sec w p c e S Z L k m xs) :
    Calls Tryz.prog 111 #[.pointer (some ⟨p, 0, none⟩), .int .i64 (k : Int)] w fun e1 w' => e1 = .returned (.int .i64 (m : Int)) ∧ w = w' := by
  obtain ⟨fl, hf, hu, -, rfl, rfl, rfl, hm, rfl⟩ := hs
  exact erases_in p c e k m fl w hf hm
theorem Sec.geo (p c e S Z L k m : Nat) (xs : List UInt8) (w : World) (hs : Sec w p c e S Z L k m xs) :
    Calls Tryz.prog 39 #[.pointer (some ⟨p, 0, none⟩)] w fun e1 w' => e1 = .returned (.agg #[.int .i64 (S : Int), .int .i64 (Z : Int), .int .i64 (L : Int)]) ∧ Below w.heap.size w w' := by
  obtain ⟨fl, hf, hu, -, rfl, rfl, rfl, hm, rfl⟩ := hs
  exact geometry_any p c e fl w hf

set_option maxHeartbeats 2000000 in
theorem look_sec (p c e S Z L k m : Nat) (xs : List UInt8) (w : World) (hs : Sec w p c e S Z L k m xs) (hM : Mark w) :
    Calls Tryz.prog 70 #[.pointer (some ⟨p, 0, none⟩), .int .i64 (k : Int)] w fun e1 w' => e1 = .returned (.tuple #[.agg #[.int .i64 (stS xs), .int .u32 (stQ xs), .int .i64 (m : Int)], .int .i64 0]) ∧ Below w.heap.size w w' := by
  have HS := Lib.hid hs
  have HM := Lib.hid hM
  have hz := hs.bz
  have hg := geo_field1 (S : Int) (Z : Int) (L : Int)
  have Hk0 := Lib.hid (Blk.new w 96 #[.int .i64 0, .int .u32 0, .int .i64 0])
  have Hbw := Lib.hid ((Below.refl w.heap.size w).alloc (Nat.le_refl _) (.cells #[.int .i64 0, .int .u32 0, .int .i64 0] 96))
  clear hs hM
  go_enter Tryz.func70, Tryz.ntmps70
  go_wp2_with fail
  refine (Sec.has p c e S Z L k m xs _ (HS.out.below Hbw.out)).mono ?_
  rintro e1 w1 ⟨rfl, hb1⟩
  have Hb1 := Lib.hid (Hbw.out.trans (hb1.mono (by simp)))
  have Hk1 := Lib.hid (Hk0.out.of (hb1.block w.heap.size (by simp)))
  clear hb1
  go_wp2_with fail
  refine (start_sec p c e S Z L k m xs _ (HS.out.below Hb1.out)).mono ?_
  rintro e1 w2 ⟨rfl, hb2⟩
  have Hb2 := Lib.hid (Hb1.out.trans (hb2.mono Hb1.out.size))
  have Hk2 := Lib.hid (Hk1.out.of (hb2.block w.heap.size Hk1.out.lt))
  clear hb2
  go_wp2_with fail
  refine (Sec.geo p c e S Z L k m xs _ (HS.out.below Hb2.out)).mono ?_
  rintro e1 w3 ⟨rfl, hb3⟩
  have Hb3 := Lib.hid (Hb2.out.trans (hb3.mono Hb2.out.size))
  have Hk3 := Lib.hid (Hk2.out.of (hb3.block w.heap.size Hk2.out.lt))
  clear hb3
  go_wp2_with fail
  refine (Sec.read p c e S Z L k m xs _ (HS.out.below Hb3.out)).mono ?_
  rintro e1 w4 ⟨u4, rfl, hown4, hb4⟩
  obtain ⟨A4, cap4, rfl, hB4, -⟩ := ByteSl.of_own (S := Empty) hown4 (fun _ _ _ h => h)
  have Hb4 := Lib.hid (Hb3.out.trans (hb4.mono Hb3.out.size))
  have Hk4 := Lib.hid (Hk3.out.of (hb4.block w.heap.size Hk3.out.lt))
  have HB4 := Lib.hid hB4
  clear hb4 hB4 hown4
  go_wp2_with fail
  refine (state_any A4 Z cap4 xs _ HB4.out (HM.out.below Hb4.out) (by omega)).mono ?_
  rintro e1 w5 ⟨rfl, hb5⟩
  unfold stV
  have Hb5 := Lib.hid (Hb4.out.trans (hb5.mono Hb4.out.size))
  have Hk5 := Lib.hid (Hk4.out.of (hb5.block w.heap.size Hk4.out.lt))
  have hz5 : w.heap.size < w5.heap.size := Hk5.out.lt
  clear hb5
  obtain ⟨a, ha⟩ : ∃ a, a = stS xs := ⟨_, rfl⟩
  obtain ⟨b, hb⟩ : ∃ b, b = stQ xs := ⟨_, rfl⟩
  rw [← ha, ← hb]
  have Ha := Lib.hid ha
  have Hb := Lib.hid hb
  clear ha hb
  have hHS5 := HS.out.below (Hb5.out.alloc Hb5.out.size (.cells #[.int .i64 a, .int .u32 b, .int .i64 0] 96))
  have HS5 := Lib.hid hHS5
  clear hHS5
  go_wp2_with fail
  refine (Sec.erases p c e S Z L k m xs _ HS5.out).mono ?_
  rintro e1 w6 ⟨rfl, rfl⟩
  have d0 := Hk5.out.cell 0
  have d1 := Hk5.out.cell 1
  have d2 := Hk5.out.cell 2
  have g0 := Hk5.out.frozen 0
  have g1 := Hk5.out.frozen 1
  have g2 := Hk5.out.frozen 2
  simp at d0 d1 d2
  clear hg
  go_wp2
  refine bodyPost_ret (v := .tuple #[.agg #[.int .i64 a, .int .u32 b, .int .i64 (m : Int)], .int .i64 0]) (by simp [results, Tryz.results70, go_sem, d0, d1, d2, hz5]) rfl ⟨by rw [Ha.out, Hb.out], ?_⟩
  exact ((((Hb5.out.setCell (by simp) _).setCell (by simp) _).setCell (by simp) _).alloc (by have := Hb5.out.size; simp [World.setCell]; omega) _)

end Go.Proofs.YtnhfmcijadficaaGreatDoor
