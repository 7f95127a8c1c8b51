/- Proved: whatever its five arguments are, NorWears returns true and leaves them as they were. Conditions: none but the row's own (the arguments can be read as data). -/
import Derived.Test.YtaepdmifenkhcaaW7
import Derived.Test.YtaepdmifenkhcaaLaw
import Derived.Deep.RegionHeld
namespace Go.Proofs.Ytaepdmifenkhcaa
open Go.ChangeShapes Go.WideShapes Go.ChangeAt Go.RowKit Go.Joins

set_option maxHeartbeats 4000000 in
theorem norWears_long (a b c d : Int) (A : Option Addr) (n cap : Nat) (w : World) (h : 60 < n) (hn : n ≤ maxLen) :
    Calls Try.prog 5 #[.int .u8 a, .int .u8 b, .int .u8 c, .int .u8 d, .slice A n cap] w fun e w' => e = .returned (.bool true) ∧ Below w.heap.size w w' := by
  unfold maxLen at hn
  go_enter Try.func5, Try.ntmps5
  go_wp2_with fail
  refine (fixed_any _).mono ?_
  rintro e1 w1 ⟨rfl, hb1⟩
  go_wp2
  go_ret
  exact ⟨rfl, hb1⟩

/-- What holds while a sector is worn: its count is i, the other one's bytes stand. -/
structure WInv (w : World) (p cb er gb S Z L q n cap k o : Nat) (A : Option Addr) (xs : List UInt8) (i : Nat) (fl : Fl) (W : World) : Prop where
  f : FlashAt W p cb er fl
  sS : fl.S = S
  zZ : fl.Z = Z
  lL : fl.L = L
  up : fl.up = true
  fu : fl.fuse = -1
  cnt : fl.er[k]? = some i
  byt : o ≠ k → (fl.bs.drop q).take n = xs
  geo : Blk W gb 23 #[.int .i64 (S : Int), .int .i64 (Z : Int), .int .i64 (L : Int)]
  arg : ByteSl W (Three p cb er) A n cap xs
  bel : Below w.heap.size w W
  hp : w.heap.size ≤ p
  hc : w.heap.size ≤ cb
  he : w.heap.size ≤ er

section
variable {w W W' : World} {p cb er gb S Z L q n cap k o i : Nat} {A : Option Addr} {xs : List UInt8} {fl fl' : Fl}
theorem WInv.gThree (h : WInv w p cb er gb S Z L q n cap k o A xs i fl W) : ¬ Three p cb er gb := by
  have h1 := h.geo.ne_ h.f.hd (by decide)
  have h2 := h.geo.ne_ h.f.ce (by decide)
  have h3 := h.geo.ne_ h.f.er (by decide)
  unfold Three
  omega
theorem WInv.next (h : WInv w p cb er gb S Z L q n cap k o A xs i fl W) (ho : Only (Three p cb er) W W') (hf : FlashAt W' p cb er fl') (h1 : fl'.S = S) (h2 : fl'.Z = Z) (h3 : fl'.L = L) (h4 : fl'.up = true) (h5 : fl'.fuse = -1) {i' : Nat}
    (h6 : fl'.er[k]? = some i') (h7 : o ≠ k → (fl'.bs.drop q).take n = xs) : WInv w p cb er gb S Z L q n cap k o A xs i' fl' W' :=
  ⟨hf, h1, h2, h3, h4, h5, h6, h7, ho.blk h.geo h.gThree, h.arg.only ho (fun _ _ hi => hi),
    h.bel.trans (ho.below h.bel.size (by intro j hj h8; have := h.hp; have := h.hc; have := h.he; unfold Three at h8; omega)), h.hp, h.hc, h.he⟩
theorem WInv.same (h : WInv w p cb er gb S Z L q n cap k o A xs i fl W) (ho : Only Empty W W') : WInv w p cb er gb S Z L q n cap k o A xs i fl W' :=
  h.next (ho.mono (fun _ _ hi => hi.elim)) (h.f.of ho (fun h => h) (fun h => h) (fun h => h)) h.sS h.zZ h.lL h.up h.fu h.cnt h.byt
end

theorem burn_none {fl : Fl} (h : fl.fuse = -1) : fl.burn = fl := by
  unfold Fl.burn
  rw [if_neg (by omega), if_neg (by omega)]
theorem many_none {fl : Fl} (h : fl.fuse = -1) (n : Nat) : fl.many n = n := by
  unfold Fl.many
  rw [if_neg (by omega)]
theorem code_none {fl : Fl} (h : fl.fuse = -1) : fl.code = 0 := by
  unfold Fl.code
  rw [if_neg (by omega)]

theorem erased_far {fl : Fl} {k o Z n : Nat} (hZ : fl.Z = Z) (hok : o ≠ k) (hn : n ≤ Z) : ((fl.erased k).bs.drop (o * Z)).take n = (fl.bs.drop (o * Z)).take n := by
  apply List.ext_getElem?
  intro j
  rw [List.getElem?_take, List.getElem?_take]
  by_cases hj : j < n
  · rw [if_pos hj, if_pos hj, List.getElem?_drop, List.getElem?_drop]
    show (fl.bs.mapIdx (eraseF (k * fl.Z) (fl.many fl.Z) fl.Z fl.mask))[o * Z + j]? = _
    rw [List.getElem?_mapIdx, hZ]
    rcases fl.bs[o * Z + j]? with _ | b
    · rfl
    · simp only [Option.map_some]
      congr 1
      have hm := fl.many_le Z
      have hfar : ¬ (k * Z ≤ o * Z + j ∧ o * Z + j < k * Z + Z) := by
        rintro ⟨h1, h2⟩
        rcases Nat.lt_or_gt_of_ne hok with h | h
        · have := Nat.mul_le_mul_right Z (show o + 1 ≤ k by omega)
          rw [Nat.add_mul] at this
          omega
        · have := Nat.mul_le_mul_right Z (show k + 1 ≤ o by omega)
          rw [Nat.add_mul] at this
          omega
      unfold eraseF
      rw [if_neg (by omega), if_neg (by omega)]
  · rw [if_neg hj, if_neg hj]

theorem and_full (x : UInt8) : 255 &&& x = x := by
  apply UInt8.toBitVec_inj.1
  show BitVec.allOnes 8 &&& x.toBitVec = x.toBitVec
  exact BitVec.allOnes_and

theorem progged {S Z L q n : Nat} {xs : List UInt8} (hx : xs.length = n) (hq : q + n ≤ S * Z) : (((Fl.fresh S Z L).prog q xs).bs.drop q).take n = xs := by
  apply List.ext_getElem?
  intro j
  rw [List.getElem?_take]
  by_cases hj : j < n
  · rw [if_pos hj, List.getElem?_drop]
    show ((List.replicate (S * Z) (255 : UInt8)).mapIdx (tornF q xs ((Fl.fresh S Z L).many xs.length) 0))[q + j]? = _
    rw [List.getElem?_mapIdx, List.getElem?_replicate, if_pos (by omega), many_none rfl, hx]
    simp only [Option.map_some]
    unfold tornF
    rw [if_pos (by omega), show q + j - q = j by omega, List.getElem?_eq_getElem (show j < xs.length by omega)]
    rw [Option.getD_some, and_full]
  · rw [if_neg hj, List.getElem?_eq_none (by omega)]

set_option maxHeartbeats 4000000 in
theorem norWears_calls (a b c : Int) (d : Nat) (A : Option Addr) (n cap : Nat) (xs : List UInt8) (w : World) (a1 : 0 ≤ a) (a2 : a ≤ 255) (b1 : 0 ≤ b) (b2 : b ≤ 255) (c1 : 0 ≤ c) (c2 : c ≤ 255) (d2 : d ≤ 255)
    (hx : ByteSl w (fun k => w.heap.size ≤ k) A n cap xs) (hn : n ≤ 60) :
    Calls Try.prog 5 #[.int .u8 a, .int .u8 b, .int .u8 c, .int .u8 (d : Int), .slice A n cap] w fun e w' => e = .returned (.bool true) ∧ Below w.heap.size w w' := by
  obtain ⟨S, hS⟩ := Int.eq_ofNat_of_zero_le (show 0 ≤ 1 + a % 5 by omega)
  obtain ⟨Z, hZ⟩ := Int.eq_ofNat_of_zero_le (show 0 ≤ 64 + b % 80 by omega)
  obtain ⟨L, hL⟩ := Int.eq_ofNat_of_zero_le (show 0 ≤ 1 + c % 6 by omega)
  have s1 : 1 ≤ S ∧ S ≤ 5 := by omega
  have z1 : 64 ≤ Z ∧ Z ≤ 143 := by omega
  have l1 : 1 ≤ L ∧ L ≤ 6 := by omega
  have hsm := fun W => small_any a b c S Z L W a1 a2 b1 b2 c1 c2 hS hZ hL
  have Hsm := Lib.hid hsm
  clear hsm hS hZ hL
  obtain ⟨k, hk⟩ : ∃ k, k = d % S := ⟨_, rfl⟩
  have hkS : k < S := by rw [hk]; exact Nat.mod_lt _ (by omega)
  have hki : (d : Int) % (S : Int) = (k : Int) := by rw [hk]; simp
  obtain ⟨o, ho⟩ : ∃ o, o = (k + 1) % S := ⟨_, rfl⟩
  have hoS : o < S := by rw [ho]; exact Nat.mod_lt _ (by omega)
  have hoi : ((k : Int) + 1) % (S : Int) = (o : Int) := by rw [ho]; simp
  have hoj : ((d : Int) + 1) % (S : Int) = (o : Int) := by rw [← hoi, ← hki]; simp
  obtain ⟨q, hq⟩ : ∃ q, q = o * Z := ⟨_, rfl⟩
  have hqz : q + Z ≤ S * Z := by
    have := Nat.mul_le_mul_right Z (show o + 1 ≤ S by omega)
    rw [Nat.add_mul] at this
    omega
  have hSZ : S * Z ≤ 5 * 143 := Nat.mul_le_mul s1.2 z1.2
  have hqi : wrap64 ((o : Int) * (Z : Int)) = (q : Int) := by
    have : (o : Int) * (Z : Int) = ((o * Z : Nat) : Int) := by simp
    rw [this, ← hq]
    unfold wrap64
    omega
  have hd0 : 0 ≤ (d : Int) % (S : Int) := by rw [hki]; omega
  have hd1 : (d : Int) % (S : Int) ≤ 5 := by rw [hki]; omega
  have Hk := Lib.hid hk
  have Hki := Lib.hid hki
  have Ho := Lib.hid ho
  have Hoi := Lib.hid hoi
  have Hoj := Lib.hid hoj
  have Hq := Lib.hid hq
  have Hqi := Lib.hid hqi
  clear hk hki ho hoi hoj hq hqi
  have hxb := hx.1
  have Hxb := Lib.hid hxb
  clear hxb
  go_enter Try.func5, Try.ntmps5
  go_wp2_with fail
  refine (fixed_any _).mono ?_
  rintro e1 w1 ⟨rfl, hb1⟩
  go_wp2_with fail
  refine (Hsm.out _).mono ?_
  rintro e1 w2 ⟨rfl, hb2⟩
  go_wp2_with fail
  have hb12 : Below w.heap.size w w2 := hb1.trans (hb2.mono hb1.size)
  refine (new_yes S Z L _ ⟨by omega, by omega, by omega, by omega, by omega, by omega⟩).mono ?_
  rintro e1 w3 ⟨p, cb, er, rfl, hf3, hb3, hp, hc, he⟩
  have hg3 : Blk w3 w2.heap.size 23 #[.int .i64 (S : Int), .int .i64 (Z : Int), .int .i64 (L : Int)] := (Blk.new w2 _ _).of (hb3.block _ (by simp))
  have h4 := hb12.size
  simp at hp hc he
  have hbw : Below w.heap.size w w3 := (hb12.alloc hb12.size _).trans (hb3.mono (by simp; omega))
  have hx3 : ByteSl w3 (Three p cb er) A n cap xs := by
    refine ByteSl.mono (hx.only (Only.of_below (S := Empty) hbw) (fun _ _ h => h.elim)) ?_
    intro i _ h3
    show w.heap.size ≤ i
    unfold Three at h3
    omega
  have g0 : w3.cell? ⟨w2.heap.size, 0, none⟩ = some (.int .i64 (S : Int)) := hg3.cell 0
  have g1 : w3.cell? ⟨w2.heap.size, 1, none⟩ = some (.int .i64 (Z : Int)) := hg3.cell 1
  clear hb1 hb2 hb3 hb12 hx
  go_wp2_with fail
  rw [Hki.out, Hoi.out, Hoj.out, Hqi.out]
  have hfit : Fits (Fl.fresh S Z L).bs q xs := by
    intro j hj
    have hqj : q + j < S * Z := by rw [Hxb.out] at hj; omega
    show _ &&& ~~~((List.replicate (S * Z) (255 : UInt8))[q + j]?.getD 0) = 0
    rw [List.getElem?_replicate, if_pos hqj]
    have : ~~~(255 : UInt8) = 0 := by decide
    rw [Option.getD_some, this]
    simp
  refine (program_fits p cb er q n cap (Fl.fresh S Z L) xs A w3 hf3 rfl hx3 (by show q + n ≤ S * Z; omega) hfit).mono ?_
  rintro e1 w4 ⟨rfl, hf4, ho4⟩
  have hbn : (Fl.fresh S Z L).burn = Fl.fresh S Z L := burn_none rfl
  have hI : WInv w p cb er w2.heap.size S Z L q n cap k o A xs 0 ((Fl.fresh S Z L).prog q xs) w4 := by
    have hgt : ¬ Three p cb er w2.heap.size := by unfold Three; omega
    refine ⟨hf4, ?_, ?_, ?_, ?_, ?_, ?_, fun _ => progged Hxb.out (by omega), ho4.blk hg3 hgt, hx3.only ho4 (fun _ _ h => h), hbw.trans (ho4.below hbw.size (by intro i hi h3; unfold Three at h3; omega)), by omega, by omega, by omega⟩
    · show (Fl.fresh S Z L).burn.S = S; rw [hbn]; rfl
    · show (Fl.fresh S Z L).burn.Z = Z; rw [hbn]; rfl
    · show (Fl.fresh S Z L).burn.L = L; rw [hbn]; rfl
    · show (Fl.fresh S Z L).burn.up = true; rw [hbn]; rfl
    · show (Fl.fresh S Z L).burn.fuse = -1; rw [hbn]; rfl
    · show (Fl.fresh S Z L).burn.er[k]? = some 0
      rw [hbn]
      show (List.replicate S 0)[k]? = some 0
      rw [List.getElem?_replicate, if_pos hkS]
  have g2 : w4.cell? ⟨w2.heap.size, 2, none⟩ = some (.int .i64 (L : Int)) := hI.geo.cell 2
  clear hf3 hf4 ho4 hg3 hbw hx3 g0 g1 hfit hbn
  go_wp2_with fail
  clear g2
  go_loopw [52] (fun v wr => ∃ (i : Nat) (fl : Fl), i ≤ L ∧ v = .int .i64 (i : Int) ∧ WInv w p cb er w2.heap.size S Z L q n cap k o A xs i fl wr) (fun v _ => L - (intOf v).toNat)
  case atStart => exact ⟨0, _, Nat.zero_le _, rfl, hI⟩
  case round =>
    obtain ⟨i, fl, hi, rfl, hW⟩ := hrel
    by_cases hlt : i < L
    · go_wp2_with fail
      refine (erases_in p cb er k i fl wr hW.f hW.cnt).mono ?_
      rintro e1 w5 ⟨rfl, rfl⟩
      go_wp2_with fail
      refine (erase_in p cb er k i fl wr hW.f hW.up hW.cnt (by rw [hW.lL]; exact hlt)).mono ?_
      rintro e1 w5 ⟨rfl, hf5, ho5⟩
      rw [code_none hW.fu]
      have hW5 : WInv w p cb er w2.heap.size S Z L q n cap k o A xs (i + 1) (fl.erased k) w5 := by
        have hbn := burn_none hW.fu
        refine hW.next ho5 hf5 ?_ ?_ ?_ ?_ ?_ ?_ ?_
        · show fl.burn.S = S; rw [hbn]; exact hW.sS
        · show fl.burn.Z = Z; rw [hbn]; exact hW.zZ
        · show fl.burn.L = L; rw [hbn]; exact hW.lL
        · show fl.burn.up = true; rw [hbn]; exact hW.up
        · show fl.burn.fuse = -1; rw [hbn]; exact hW.fu
        · show (fl.er.set k ((fl.er[k]?.getD 0) + 1))[k]? = some (i + 1)
          have hkl : k < fl.er.length := by rw [hW.f.ok.el, hW.sS]; exact hkS
          rw [hW.cnt, List.getElem?_set, if_pos rfl, if_pos hkl]
          rfl
        · intro hok
          rw [Hq.out, erased_far hW.zZ hok (by omega), ← Hq.out]
          exact hW.byt hok
      clear hW hI hf5 ho5
      go_wp2
      go_roundw
      case rel => exact ⟨i + 1, _, by omega, by go_num, hW5⟩
      case measure => simp [intOf]; omega
    · obtain rfl : i = L := by omega
      clear hI
      have g1 : wr.cell? ⟨w2.heap.size, 1, none⟩ = some (.int .i64 (Z : Int)) := hW.geo.cell 1
      go_wp2_with fail
      rw [Hqi.out]
      clear g1
      refine (read_in p cb er q n fl wr hW.f hW.up (by rw [hW.sS, hW.zZ]; omega)).mono ?_
      rintro e1 w5 ⟨v, rfl, hown, hb5⟩
      have hW5 := hW.same (Only.of_below (S := Empty) hb5)
      obtain ⟨Ao, capo, rfl, hO, -⟩ := ByteSl.of_own (S := Three p cb er) hown (fun j h _ h3 => by have := hW.f.hd.lt; have := hW.f.ce.lt; have := hW.f.er.lt; unfold Three at h3; omega)
      clear hW hown hb5
      have hcO : ∀ m, (convert 34 9 (.slice Ao n capo)).run Try.prog (w5.drewN m) = .ok (.string (strB ((fl.bs.drop q).take n))) (w5.drewN m) := fun m => conv_bytes (hO.only ((Only.refl Empty w5).drewN m) (fun _ _ h => h.elim))
      have hcA : ∀ m, (convert 34 9 (.slice A n cap)).run Try.prog (w5.drewN m) = .ok (.string (strB xs)) (w5.drewN m) := fun m => conv_bytes (hW5.arg.only ((Only.refl Empty w5).drewN m) (fun _ _ h => h.elim))
      have g2 : w5.cell? ⟨w2.heap.size, 2, none⟩ = some (.int .i64 (i : Int)) := hW5.geo.cell 2
      have hworn : ∀ m, Calls Try.prog 22 #[.pointer (some ⟨p, 0, none⟩), .int .i64 (k : Int)] (w5.drewN m) fun e1 w' => e1 = .returned (.int .i64 4) ∧ ∃ n, w' = w5.drewN n := fun m =>
        Calls.quiet_of (erase_worn p cb er k i fl (w5.drewN m) (hW5.f.drewN m) hW5.up hW5.cnt (by rw [hW5.lL]; exact Nat.le_refl _))
      have hers : ∀ m, Calls Try.prog 17 #[.pointer (some ⟨p, 0, none⟩), .int .i64 (k : Int)] (w5.drewN m) fun e1 w' => e1 = .returned (.int .i64 (i : Int)) ∧ ∃ n, w' = w5.drewN n := fun m =>
        Calls.quiet_of_same ((erases_in p cb er k i fl (w5.drewN m) (hW5.f.drewN m) hW5.cnt).mono fun _ _ ⟨h1, h2⟩ => ⟨h1, h2.symm⟩)
      have hbel := hW5.bel
      have Hworn := Lib.hid hworn
      have Hers := Lib.hid hers
      have Hbyt := Lib.hid hW5.byt
      clear hworn hers hW5 hO
      generalize hys : (fl.bs.drop q).take n = ys at *
      clear hys
      by_cases hok : o = k
      · have hob : ((o : Int) == (k : Int)) = true := by simp [hok]
        clear hok Hbyt
        go_wp2_with fail
        go_quiet (first | (go_at_call 22; exact Hworn.out _) | (go_at_call 17; exact Hers.out _))
        go_wp2
        go_ret
        exact ⟨rfl, hbel.drewN nq⟩
      · have hob : ((o : Int) == (k : Int)) = false := by simp; omega
        have hyx : ys = xs := Hbyt.out hok
        subst hyx
        clear hok Hbyt
        go_wp2_with fail
        go_quiet (first | (go_at_call 22; exact Hworn.out _) | (go_at_call 17; exact Hers.out _))
        go_wp2
        go_ret
        exact ⟨rfl, hbel.drewN nq⟩

theorem norWears_all (a b c d : Int) (A : Option Addr) (n cap : Nat) (xs : List UInt8) (w : World) (a1 : 0 ≤ a) (a2 : a ≤ 255) (b1 : 0 ≤ b) (b2 : b ≤ 255) (c1 : 0 ≤ c) (c2 : c ≤ 255) (d1 : 0 ≤ d) (d2 : d ≤ 255)
    (hx : ByteSl w (fun k => w.heap.size ≤ k) A n cap xs) :
    Calls Try.prog 5 #[.int .u8 a, .int .u8 b, .int .u8 c, .int .u8 d, .slice A n cap] w fun e w' => e = .returned (.bool true) ∧ Below w.heap.size w w' := by
  by_cases h : 60 < n
  · exact norWears_long a b c d A n cap w h (Nat.le_trans hx.2.1 hx.2.2.1)
  · obtain ⟨d, rfl⟩ := Int.eq_ofNat_of_zero_le d1
    exact norWears_calls a b c d A n cap xs w a1 a2 b1 b2 c1 c2 (by omega) hx (by omega)

set_option maxRecDepth 100000 in
theorem norWears_lifted (os : Os) (started : os.Started) (H : Type) (enc : TypeId × Value → H) :
    ReturnsInHanded {} Try.checked os 5 .any (Rows.norWearsSpec.pre6 enc Try.prog Try.f5 Rows.norWearsRow.domain false) (Rows.norWearsSpec.post enc Try.prog Try.f5 false true false false) := by
  refine returnsInHanded_of_change (C := Try.checked) Try.ownKnobs started (by kernel_rfl) Try.func5
    (ChangeSpec.witness6 (enc := enc) (C := Try.checked) false ⟨#[], #[.int .u8 0, .int .u8 0, .int .u8 0, .int .u8 0, .slice none 0 0], []⟩ 8 (by kernel_rfl) (by kernel_rfl) (by kernel_rfl) (by kernel_rfl)) ?_
  intro W base args ds gs before hval0 hW hcnd _
  have hval : ∀ (j : Nat) t v, Try.f5.params[j]? = some t → args[j]? = some v → Value.okWide Try.prog W .any base t v := hval0
  have hW' := hW
  obtain ⟨p, q, hA0, hV, rfl, hfz, hnd⟩ := hW
  have hA : DataW.TrodAll enc Try.prog W 0 (fun _ => true) true Try.f5.params.toList args.toList ds p := hA0
  rw [Try.params5] at hA hval
  obtain ⟨v0, vs0, d0, ds0, p0, q0, hargs, rfl, rfl, h0, r0⟩ := trodAll_cons hA
  obtain ⟨v1, vs1, d1, ds1, p1, q1, rfl, rfl, rfl, h1, r1⟩ := trodAll_cons r0
  obtain ⟨v2, vs2, d2, ds2, p2, q2, rfl, rfl, rfl, h2, r2⟩ := trodAll_cons r1
  obtain ⟨v3, vs3, d3, ds3, p3, q3, rfl, rfl, rfl, h3, r3⟩ := trodAll_cons r2
  obtain ⟨v4, vs4, d4, ds4, p4, q4, rfl, rfl, rfl, h4, r4⟩ := trodAll_cons r3
  obtain ⟨rfl, rfl, rfl⟩ := trodAll_nil r4
  obtain rfl : args = #[v0, v1, v2, v3, v4] := by cases args; simp_all
  obtain ⟨rfl, rfl⟩ := trodVars_none hV
  obtain ⟨x0, rfl, a0, b0⟩ := open_u8 (hval 0 5 v0 rfl rfl) h0
  obtain ⟨x1, rfl, a1, b1⟩ := open_u8 (hval 1 5 v1 rfl rfl) h1
  obtain ⟨x2, rfl, a2, b2⟩ := open_u8 (hval 2 5 v2 rfl rfl) h2
  obtain ⟨x3, rfl, a3, b3⟩ := open_u8 (hval 3 5 v3 rfl rfl) h3
  obtain ⟨A, n, cap, xs, rfl, hx⟩ := open_bytes (hval 4 34 v4 rfl rfl) h4
  refine (norWears_all x0 x1 x2 x3 A n cap xs W a0 b0 a1 b1 a2 b2 a3 b3 hx).mono fun e W' ⟨he, hb⟩ => ?_
  subst he
  exact ⟨_, rfl, law_post Try.allLaid (of_decide_eq_true (by kernel_rfl)) rfl Try.underlying4 rfl hW' rfl rfl rfl hb⟩

/-- The statement: NorWears returns true, and its arguments read as they did. -/
theorem norWears_holds : Rows.NorWearsSaid :=
  OpenClaim.holds_of_wide 5 Try.f5 rfl rfl rfl rfl rfl rfl rfl ⟨rfl, rfl, rfl, rfl, rfl⟩ rfl rfl rfl rfl rfl (by kernel_rfl) Try.func5 (by kernel_rfl)
    (of_decide_eq_true (by kernel_rfl)) (by unfold Func.isWrapper; first | (rw [if_pos (by decide +kernel)]; kernel_rfl) | (rw [if_neg (by decide +kernel)]; exact ⟨rfl, rfl⟩))
    (fun os started H enc _ => norWears_lifted os started H enc)

end Go.Proofs.Ytaepdmifenkhcaa
