/- The walks over utf.Len, utf.Decode, Plain and the document's Same, Plain. -/
import Derived.Test.YtendpbklcgiafaaZak
import Derived.Test.YtendpbklcgiafaaZaj
import Derived.Test.YtendpbklcgiafaaZag
import Derived.Test.YtendpbklcgiafaaZaf
import Derived.Laws.StructEq
import Derived.Lib.ConvBytes
import Derived.Deep.RegionHeld3
import Derived.Test.YtendpbklcgiafaaZah
namespace Go.Proofs.Ytendpbklcgiafaa
set_option maxRecDepth 100000
open Go.RowKit

theorem add_add_u (ad : Addr) (k j : Nat) (h : k ≠ 0) : (ad.add k).add j = ad.add (k + j) := by
  by_cases h0 : j = 0
  · subst h0
    show (if 0 = 0 then _ else _) = _
    rw [if_pos rfl]
    rfl
  · unfold Addr.add
    rw [if_neg h, if_neg h0, if_neg (by omega)]
    show (⟨ad.block, ad.off + k + j, none⟩ : Addr) = ⟨ad.block, ad.off + (k + j), none⟩
    rw [Nat.add_assoc]
theorem ByteSl.from_ {w : World} {S : Nat → Prop} {ad : Addr} {n cap : Nat} {xs : List UInt8} (h : ByteSl w S (some ad) n cap xs) (k : Nat) (hk : k ≤ n) (h0 : k ≠ 0) : ByteSl w S (some (ad.add k)) (n - k) (cap - k) (xs.drop k) := by
  obtain ⟨hl, hnc, hcm, hc⟩ := h
  refine ⟨by rw [List.length_drop]; omega, by omega, by omega, fun hn => ?_⟩
  obtain ⟨a, e, hb, hs, hcell⟩ := hc (by omega)
  cases e
  refine ⟨_, rfl, by rw [addr_add_block]; exact hb, by rw [addr_add_block]; exact hs, fun j x hj => ?_⟩
  rw [List.getElem?_drop] at hj
  rw [add_add_u _ _ _ h0]
  exact hcell (k + j) x hj

/-- What Len answers. -/
def lenV (r : Option (List Nat)) : Value := match r with
  | some l => .tuple #[.int .i64 (l.length : Int), .int .i64 0]
  | none => .tuple #[.int .i64 0, .int .i64 8]

set_option maxHeartbeats 1000000 in
theorem len_any (A : Option Addr) (n cap : Nat) (xs : List UInt8) (r : Option (List Nat)) (w : World) (hB : ByteSl w Empty A n cap xs) (hr : DecR xs r) (hn : n ≤ 100000) :
    Calls Try.prog 97 #[.slice A n cap] w fun e w' => e = .returned (lenV r) ∧ ∃ q, w' = w.drewN q := by
  have HB := Lib.hid hB
  have HR := Lib.hid hr
  clear hB hr
  go_enter Try.func97, Try.ntmps97
  go_wp2
  go_loopw [0, 4, 5, 6] (fun b c _ _ wr => ∃ (A1 : Option Addr) (n1 cap1 k q : Nat) (ys : List UInt8) (r1 : Option (List Nat)), b = .slice A1 n1 cap1 ∧ c = .int .i64 (k : Int) ∧ wr = w.drewN q ∧ k + n1 ≤ n ∧ Hid (ByteSl w Empty A1 n1 cap1 ys) ∧ Hid (DecR ys r1) ∧ Hid (r.map List.length = r1.map (fun l => k + l.length))) (fun b _ _ _ _ => match b with | .slice _ m _ => m | _ => 0)
  case atStart => exact ⟨A, n, cap, 0, 0, xs, r, rfl, rfl, rfl, by omega, HB, HR, Lib.hid (by simp)⟩
  case round =>
    obtain ⟨A1, n1, cap1, k, q, ys, r1, rfl, rfl, rfl, hkn, HB1, HR1, HM⟩ := hrel
    by_cases hlt : 0 < n1
    · obtain ⟨ad, x, rfl, hb, _, hx, hc⟩ := HB1.out.at_ hlt
      obtain ⟨u, m, hum⟩ : ∃ u m, unitF ys = (u, m) := ⟨_, _, rfl⟩
      have HB2 := Lib.hid (HB1.out.only ((Only.refl Empty w).drewN q) (fun _ _ h => h))
      have c := unit_any ad n1 cap1 ys _ HB2.out hlt
      rw [hum] at c
      have c : Calls Try.prog 98 #[.slice (some ad) n1 cap1] (w.drewN q) fun e w' => e = .returned (.tuple #[.int .u16 (u : Int), .int .i64 (m : Int)]) ∧ ∃ q2, w' = (w.drewN q).drewN q2 := c
      have C := Lib.hid c
      have hle := unitF_le ys
      rw [hum] at hle
      have hmle : m ≤ n1 := by have := HB1.out.1; have hle : m ≤ ys.length := hle; omega
      have hcm : cap1 ≤ 9223372036854775807 := by have := HB1.out.2.2.1; unfold maxLen at this; exact this
      have hnc : n1 ≤ cap1 := HB1.out.2.1
      clear c hle hx hc hb
      by_cases hm0 : m = 0
      · have hr1 : r1 = none := decR_fun (.bad (by intro e; have := HB1.out.1; rw [e] at this; simp at this; omega) (by rw [hum]; exact hm0)) _ HR1.out
        have hrn : r = none := by
          have := HM.out
          rw [hr1] at this
          simpa using this
        have Hrn := Lib.hid hrn
        have hq : ((m : Int) == 0) = true := by simp; omega
        clear hum hm0 hr1 hrn
        go_wp2_with fail
        refine C.out.mono ?_
        rintro e1 w1 ⟨rfl, q2, rfl⟩
        go_wp2
        go_ret2
        exact ⟨by rw [Hrn.out]; rfl, _, rfl⟩
      · have hq : ((m : Int) == 0) = false := by simp; omega
        obtain ⟨r2, hr2⟩ : ∃ r2, DecR (ys.drop m) r2 := decR_ex _ _ (Nat.le_refl _)
        have hr1 : r1 = r2.map (u :: ·) := by
          have h := DecR.go (b := ys) (r := r2) (by rw [hum]; exact hm0) (by rw [hum]; exact hr2)
          rw [hum] at h
          exact decR_fun h _ HR1.out
        have hM2 : r.map List.length = r2.map (fun l => (k + 1) + l.length) := by
          rw [HM.out, hr1]
          cases r2 with
          | none => rfl
          | some l2 =>
            show some _ = some _
            congr 1
            simp only [List.length_cons]
            omega
        have HM2 := Lib.hid hM2
        have HR2 := Lib.hid hr2
        have HB3 := Lib.hid (HB1.out.from_ m hmle hm0)
        have HB4 : Hid (m = n1 → ByteSl w Empty (some ad) 0 0 (ys.drop m)) := Lib.hid (fun e => by
          rw [List.drop_of_length_le (by have := HB1.out.1; omega)]
          exact ByteSl.nil_ _ _ _ _ (by unfold maxLen; omega))
        clear hum hr1 hM2 hr2
        by_cases hcap : cap1 = m
        · have Hcap : Hid (m = n1) := Lib.hid (by omega)
          have hcap2 : m = cap1 := hcap.symm
          clear hcap
          go_wp2_with fail
          refine C.out.mono ?_
          rintro e1 w1 ⟨rfl, q2, rfl⟩
          go_wp2
          go_roundw
          case rel => exact ⟨some ad, 0, 0, k + 1, _, _, _, rfl, by go_num, rfl, by omega, Lib.hid (HB4.out Hcap.out), HR2, HM2⟩
          case measure => exact hlt
        · go_wp2_with fail
          refine C.out.mono ?_
          rintro e1 w1 ⟨rfl, q2, rfl⟩
          go_wp2
          go_roundw
          case rel => exact ⟨_, _, _, k + 1, _, _, _, rfl, by go_num, rfl, by omega, HB3, HR2, HM2⟩
          case measure => show n1 - m < n1; omega
    · obtain rfl : n1 = 0 := by omega
      have hys : ys = [] := List.eq_nil_of_length_eq_zero HB1.out.1
      have hr1 : r1 = some [] := decR_fun (by rw [hys]; exact .nil) _ HR1.out
      have hrk : ∃ l, r = some l ∧ l.length = k := by
        have := HM.out
        rw [hr1] at this
        cases r with
        | none => cases this
        | some l =>
          refine ⟨l, rfl, ?_⟩
          simpa using this
      obtain ⟨l, rfl, hlk⟩ := hrk
      have Hlk := Lib.hid hlk
      clear hys hr1 hlk
      go_wp2
      go_ret2
      exact ⟨by unfold lenV; rw [← Hlk.out]; rfl, _, rfl⟩


theorem plain_take (xs : List UInt8) (k : Nat) (x : UInt8) (h : xs[k]? = some x) (ht : (xs.take k).all plainB = true) : (xs.take (k + 1)).all plainB = plainB x := by
  rw [take_one xs k x h, List.all_append, ht]
  simp
theorem plain_no (xs : List UInt8) (k : Nat) (x : UInt8) (h : xs[k]? = some x) (hx : plainB x = false) : xs.all plainB = false := by
  rw [List.all_eq_false]
  exact ⟨x, List.mem_of_getElem? h, by rw [hx]; exact Bool.false_ne_true⟩



end Go.Proofs.Ytendpbklcgiafaa

/- The walks over pool.formOf, part, isText, mayStand, Check. -/
namespace Go.Proofs.Ytendpbklcgiafaa
set_option maxRecDepth 100000
open Go.RowKit

theorem formOf_any (t : Int) (w : World) : Calls Try.prog 92 #[.int .i64 t] w fun e w' => e = .returned (formF t).v ∧ Below w.heap.size w w' := by
  rcases tag_ways t with rfl | rfl | rfl | rfl | rfl | rfl | rfl | rfl | h
  iterate 8
    · go_enter Try.func92, Try.ntmps92
      go_wp2
      refine bodyPost_ret (v := (formF _).v) (by simp [results, Try.results92, go_sem, Frm.v, formF]) rfl ⟨rfl, ((Below.refl _ _).alloc (Nat.le_refl _) _).alloc (by simp) _⟩
  · have HE := Lib.hid (formF_no h)
    obtain ⟨h1, h3, h5, h7, h8, h9, h10, h12⟩ := h
    have d1 : (t == 1) = false := by simpa using h1
    have d3 : (t == 3) = false := by simpa using h3
    have d5 : (t == 5) = false := by simpa using h5
    have d7 : (t == 7) = false := by simpa using h7
    have d8 : (t == 8) = false := by simpa using h8
    have d9 : (t == 9) = false := by simpa using h9
    have d10 : (t == 10) = false := by simpa using h10
    have d12 : (t == 12) = false := by simpa using h12
    clear h1 h3 h5 h7 h8 h9 h10 h12
    go_enter Try.func92, Try.ntmps92
    go_wp2
    refine bodyPost_ret (v := noFrm.v) (by simp [results, Try.results92, go_sem, Frm.v, noFrm]) rfl ⟨by rw [HE.out], ((Below.refl _ _).alloc (Nat.le_refl _) _).alloc (by simp) _⟩

theorem form_ways (t : Int) : formF t = ⟨true, 0, 0, 0⟩ ∨ formF t = ⟨false, 8, 0, 0⟩ ∨ formF t = ⟨false, 4, 0, 0⟩ ∨ formF t = ⟨false, 0, 7, 12⟩ ∨ formF t = ⟨false, 0, 1, 1⟩ ∨ formF t = ⟨false, 0, 1, 0⟩ ∨ formF t = ⟨false, 0, 0, 0⟩ := by
  unfold formF noFrm
  repeat' split
  all_goals simp

set_option maxHeartbeats 1000000 in
theorem part_any (f : Frm) (hf : f = ⟨true, 0, 0, 0⟩ ∨ f = ⟨false, 8, 0, 0⟩ ∨ f = ⟨false, 4, 0, 0⟩ ∨ f = ⟨false, 0, 7, 12⟩ ∨ f = ⟨false, 0, 1, 1⟩ ∨ f = ⟨false, 0, 1, 0⟩ ∨ f = ⟨false, 0, 0, 0⟩) (c : Cst) (w : World) : Calls Try.prog 93 #[f.v, c.v] w fun e w' => e = .returned (partF f c).v ∧ Below w.heap.size w w' := by
  have HU := u64_wrap c.n
  have CS : Hid (∀ (n : Nat) W, 1 ≤ n → n ≤ 8 → Calls Try.prog 96 #[.int .u64 (bits64 c.n : Int), .int .i64 (n : Int)] W fun e w' => e = .returned (.int .i64 (sgn (bits64 c.n) n)) ∧ W = w') :=
    Lib.hid (fun n W h1 h2 => sign_yes (bits64 c.n) n W (u64_le _) h1 h2)
  rcases hf with rfl | rfl | rfl | rfl | rfl | rfl | rfl
  · have HE : Hid ((partF ⟨true, 0, 0, 0⟩ c).v = .agg #[.int .i64 c.tag, .int .i64 0, .int .i64 0, .int .i64 0, .string (strB c.s)]) := Lib.hid rfl
    simp only [Frm.v, Cst.v]
    rw [Cst.v] at HE
    go_enter Try.func93, Try.ntmps93
    go_wp2
    refine bodyPost_ret (v := .agg #[.int .i64 c.tag, .int .i64 0, .int .i64 0, .int .i64 0, .string (strB c.s)]) (by simp [results, Try.results93, go_sem, strB]) rfl ⟨by rw [HE.out], ((((Below.refl _ _).alloc (Nat.le_refl _) _).alloc (by simp) _).alloc (by simp; try omega) _).alloc (by simp; try omega) _⟩
  · have HE : Hid ((partF ⟨false, 8, 0, 0⟩ c).v = .agg #[.int .i64 c.tag, .int .i64 0, .int .i64 0, .int .i64 (sgn (bits64 c.n) 8), .string (strB [])]) := Lib.hid rfl
    simp only [Frm.v, Cst.v]
    rw [Cst.v] at HE
    go_enter Try.func93, Try.ntmps93
    go_wp2_with fail
    refine (CS.out 8 _ (by omega) (by omega)).mono ?_
    rintro e w1 ⟨rfl, rfl⟩
    go_wp2
    refine bodyPost_ret (v := .agg #[.int .i64 c.tag, .int .i64 0, .int .i64 0, .int .i64 (sgn (bits64 c.n) 8), .string (strB [])]) (by simp [results, Try.results93, go_sem, strB]) rfl ⟨by rw [HE.out], ((((Below.refl _ _).alloc (Nat.le_refl _) _).alloc (by simp) _).alloc (by simp; try omega) _).alloc (by simp; try omega) _⟩
  · have HE : Hid ((partF ⟨false, 4, 0, 0⟩ c).v = .agg #[.int .i64 c.tag, .int .i64 0, .int .i64 0, .int .i64 (sgn (bits64 c.n) 4), .string (strB [])]) := Lib.hid rfl
    simp only [Frm.v, Cst.v]
    rw [Cst.v] at HE
    go_enter Try.func93, Try.ntmps93
    go_wp2_with fail
    refine (CS.out 4 _ (by omega) (by omega)).mono ?_
    rintro e w1 ⟨rfl, rfl⟩
    go_wp2
    refine bodyPost_ret (v := .agg #[.int .i64 c.tag, .int .i64 0, .int .i64 0, .int .i64 (sgn (bits64 c.n) 4), .string (strB [])]) (by simp [results, Try.results93, go_sem, strB]) rfl ⟨by rw [HE.out], ((((Below.refl _ _).alloc (Nat.le_refl _) _).alloc (by simp) _).alloc (by simp; try omega) _).alloc (by simp; try omega) _⟩
  · have HE : Hid ((partF ⟨false, 0, 7, 12⟩ c).v = .agg #[.int .i64 c.tag, .int .i64 c.a, .int .i64 c.b, .int .i64 0, .string (strB [])]) := Lib.hid rfl
    simp only [Frm.v, Cst.v]
    rw [Cst.v] at HE
    go_enter Try.func93, Try.ntmps93
    go_wp2
    refine bodyPost_ret (v := .agg #[.int .i64 c.tag, .int .i64 c.a, .int .i64 c.b, .int .i64 0, .string (strB [])]) (by simp [results, Try.results93, go_sem, strB]) rfl ⟨by rw [HE.out], ((((Below.refl _ _).alloc (Nat.le_refl _) _).alloc (by simp) _).alloc (by simp; try omega) _).alloc (by simp; try omega) _⟩
  · have HE : Hid ((partF ⟨false, 0, 1, 1⟩ c).v = .agg #[.int .i64 c.tag, .int .i64 c.a, .int .i64 c.b, .int .i64 0, .string (strB [])]) := Lib.hid rfl
    simp only [Frm.v, Cst.v]
    rw [Cst.v] at HE
    go_enter Try.func93, Try.ntmps93
    go_wp2
    refine bodyPost_ret (v := .agg #[.int .i64 c.tag, .int .i64 c.a, .int .i64 c.b, .int .i64 0, .string (strB [])]) (by simp [results, Try.results93, go_sem, strB]) rfl ⟨by rw [HE.out], ((((Below.refl _ _).alloc (Nat.le_refl _) _).alloc (by simp) _).alloc (by simp; try omega) _).alloc (by simp; try omega) _⟩
  · have HE : Hid ((partF ⟨false, 0, 1, 0⟩ c).v = .agg #[.int .i64 c.tag, .int .i64 c.a, .int .i64 0, .int .i64 0, .string (strB [])]) := Lib.hid rfl
    simp only [Frm.v, Cst.v]
    rw [Cst.v] at HE
    go_enter Try.func93, Try.ntmps93
    go_wp2
    refine bodyPost_ret (v := .agg #[.int .i64 c.tag, .int .i64 c.a, .int .i64 0, .int .i64 0, .string (strB [])]) (by simp [results, Try.results93, go_sem, strB]) rfl ⟨by rw [HE.out], ((((Below.refl _ _).alloc (Nat.le_refl _) _).alloc (by simp) _).alloc (by simp; try omega) _).alloc (by simp; try omega) _⟩
  · have HE : Hid ((partF ⟨false, 0, 0, 0⟩ c).v = .agg #[.int .i64 c.tag, .int .i64 0, .int .i64 0, .int .i64 0, .string (strB [])]) := Lib.hid rfl
    simp only [Frm.v, Cst.v]
    rw [Cst.v] at HE
    go_enter Try.func93, Try.ntmps93
    go_wp2
    refine bodyPost_ret (v := .agg #[.int .i64 c.tag, .int .i64 0, .int .i64 0, .int .i64 0, .string (strB [])]) (by simp [results, Try.results93, go_sem, strB]) rfl ⟨by rw [HE.out], ((((Below.refl _ _).alloc (Nat.le_refl _) _).alloc (by simp) _).alloc (by simp; try omega) _).alloc (by simp; try omega) _⟩

end Go.Proofs.Ytendpbklcgiafaa

/- The walks over pool.isText, mayStand, Check. -/
namespace Go.Proofs.Ytendpbklcgiafaa
set_option maxRecDepth 100000
open Go.RowKit

theorem bytesWorld_below (w : World) (e : TypeId) (s : ByteArray) : Below w.heap.size w (Lib.bytesWorld w e s) :=
  ⟨by simp [Lib.bytesWorld, World.freeze, World.alloc, World.drew, -World.alloc_eq, -World.drew_eq], by simp [Lib.bytesWorld, World.freeze, World.alloc, World.drew, -World.alloc_eq, -World.drew_eq], by simp [Lib.bytesWorld, World.freeze, World.alloc, World.drew, -World.alloc_eq, -World.drew_eq],
    by rw [Lib.bytesWorld_size]; omega, fun k hk => Lib.bytesWorld_at_old w e s k hk⟩
theorem conv_str (s : List UInt8) (n : Nat) (hl : s.length = n) (hn : n ≤ 1048576) (W : World) :
    ∃ cap w', (convert 9 31 (.string (strB s))).run Try.prog W = .ok (.slice (some ⟨W.heap.size, 0, none⟩) n cap) w' ∧ Below W.heap.size W w' ∧ ByteSl w' Empty (some ⟨W.heap.size, 0, none⟩) n cap s := by
  have hsz : (strB s).size = n := by rw [strB_size, hl]
  refine ⟨grownCap W n 0 5, Lib.bytesWorld W 5 (strB s), ?_, bytesWorld_below _ _ _, hl, grownCap_ge _ _ _ _, grownCap_le_maxLen _ _ _ _ (by unfold maxLen; omega), fun _ => ⟨_, rfl, by rw [Lib.bytesWorld_size]; exact Nat.lt_succ_self _, fun h => h, fun j x hx => ?_⟩⟩
  · have h := Lib.run_convert_string_bytes (P := Try.prog) W 9 31 5 (strB s) Try.underlying9 Try.underlying31 Try.underlying5
    rw [hsz] at h
    exact h
  · have hj : j < n := by rw [← hl]; exact (List.getElem?_eq_some_iff.mp hx).1
    have ha : (⟨W.heap.size, 0, none⟩ : Addr).add j = ⟨W.heap.size, j, none⟩ := by unfold Addr.add; split <;> simp_all
    rw [ha, Lib.bytesWorld_cell W 5 (strB s) j (by rw [hsz]; exact hj)]
    simp [strB, List.getD, hx, B8]

theorem isText_any (s : List UInt8) (w : World) (hs : s.length ≤ 9223372036854775807) : Calls Try.prog 94 #[.string (strB s)] w fun e w' => e = .returned (.bool (isTextF s)) ∧ Below w.heap.size w w' := by
  have hsz := strB_size s
  obtain ⟨n, hn⟩ : ∃ n, s.length = n := ⟨_, rfl⟩
  rw [hn] at hsz hs
  by_cases h : n ≤ 65535
  · have HE : Hid (isTextF s = (decF s).isSome) := Lib.hid (by unfold isTextF; rw [decide_eq_true (by omega)]; rfl)
    obtain ⟨cap, w1, hcv, hb, hB⟩ := conv_str s n hn (by omega) w
    have CL : Hid (Calls Try.prog 97 #[.slice (some ⟨w.heap.size, 0, none⟩) n cap] w1 fun e w' => e = .returned (lenV (decF s)) ∧ ∃ q, w' = w1.drewN q) :=
      Lib.hid (len_any _ n cap s _ w1 hB (decF_is s) (by omega))
    have Hn := Lib.hid hn
    have hd : decide ((65535 : Int) < (n : Int)) = false := decide_eq_false (by omega)
    have Hb := Lib.hid hb
    clear hn hB hb
    go_enter Try.func94, Try.ntmps94
    go_wp2_with fail
    refine CL.out.mono ?_
    rintro e w2 ⟨rfl, q, rfl⟩
    cases hdec : decF s with
    | none =>
      simp only [lenV]
      go_wp2
      go_ret
      exact ⟨by rw [HE.out, hdec]; rfl, Hb.out.drewN q⟩
    | some t =>
      simp only [lenV]
      go_wp2
      go_ret
      exact ⟨by rw [HE.out, hdec]; rfl, Hb.out.drewN q⟩
  · have HE : Hid (isTextF s = false) := Lib.hid (by unfold isTextF; rw [decide_eq_false (by omega)]; rfl)
    have hd : decide ((65535 : Int) < (n : Int)) = true := decide_eq_true (by omega)
    clear hn h
    go_enter Try.func94, Try.ntmps94
    go_wp2
    go_ret
    exact ⟨by rw [HE.out]; rfl, Below.refl _ _⟩

/-! ### Constants compared -/
theorem eq_const (c d : Cst) (W : World) : (binOp .eql 30 c.v d.v).run Try.prog W = .ok (.bool (decide (c = d))) W := by
  unfold Cst.v
  rw [run_eql_struct]
  simp [go_sem, Try.underlying30, strB_toList]
  obtain ⟨t, a, b, n, s⟩ := c
  obtain ⟨t', a', b', n', s'⟩ := d
  simp only [Cst.mk.injEq]
  repeat' split
  all_goals simp_all
theorem neq_const (c d : Cst) (W : World) : (binOp .neq 30 c.v d.v).run Try.prog W = .ok (.bool (decide (c ≠ d))) W := by
  unfold Cst.v
  rw [run_neq_struct]
  simp [go_sem, Try.underlying30, strB_toList]
  obtain ⟨t, a, b, n, s⟩ := c
  obtain ⟨t', a', b', n', s'⟩ := d
  simp only [Cst.mk.injEq]
  repeat' split
  all_goals simp_all
theorem eq_form (f g : Frm) (W : World) : (binOp .eql 155 f.v g.v).run Try.prog W = .ok (.bool (decide (f = g))) W := by
  unfold Frm.v
  rw [run_eql_struct]
  simp [go_sem, Try.underlying155]
  obtain ⟨t, a, b, n⟩ := f
  obtain ⟨t', a', b', n'⟩ := g
  simp only [Frm.mk.injEq]
  repeat' split
  all_goals simp_all

end Go.Proofs.Ytendpbklcgiafaa

/- The walk over pool.mayStand. -/
namespace Go.Proofs.Ytendpbklcgiafaa
set_option maxRecDepth 100000
open Go.RowKit

theorem eq_zero (c : Cst) (W : World) : (binOp .eql 30 (.agg #[.int .i64 c.tag, .int .i64 c.a, .int .i64 c.b, .int .i64 c.n, .string (strB c.s)]) (.agg #[.int .i64 0, .int .i64 0, .int .i64 0, .int .i64 0, .string ⟨#[]⟩])).run Try.prog W = .ok (.bool (decide (c = zeroC))) W := eq_const c zeroC W
theorem eq_noFrm (f : Frm) (W : World) : (binOp .eql 155 (.agg #[.bool f.text, .int .i64 f.num, .int .i64 f.a, .int .i64 f.b]) (.agg #[.bool false, .int .i64 0, .int .i64 0, .int .i64 0])).run Try.prog W = .ok (.bool (decide (f = noFrm))) W := eq_form f noFrm W

/-- The first place, or a long's second one. -/
theorem mayStand_empty (A : Option Addr) (n cap k : Nat) (l : List Cst) (w : World) (hP : PoolSl w A n cap l) (hn : n ≤ 1000000) (hk : k < n) (hz : k = 0 ∨ (l[k - 1]?.map (·.tag)) = some 5) :
    Calls Try.prog 91 #[.slice A n cap, .int .i64 (k : Int)] w fun e w' => e = .returned (.bool (mayF l k)) ∧ Below w.heap.size w w' := by
  obtain ⟨b, o, c, rfl, hc, hb, h0, h1, h2, h3, h4⟩ := pool_at hP hk
  have HE : Hid (mayF l k = decide (c = zeroC)) := Lib.hid (by unfold mayF; rw [hc]; simp only; rw [if_pos hz])
  have HQ := eq_zero c
  obtain ⟨B, hB⟩ : ∃ B, decide (c = zeroC) = B := ⟨_, rfl⟩
  rw [hB] at HE
  simp only [hB] at HQ
  clear hB
  by_cases h00 : k = 0
  · subst h00
    rw [Nat.zero_mul, Nat.add_zero] at h0 h1 h2 h3 h4
    clear hP hc hz
    go_enter Try.func91, Try.ntmps91
    go_wp2
    go_ret
    exact ⟨by rw [HE.out]; rfl, (Below.refl _ _).alloc (Nat.le_refl _) _⟩
  · obtain ⟨b', o', d, hA, hd, hb', g0, -⟩ := pool_at hP (show k - 1 < n by omega)
    obtain ⟨rfl, rfl⟩ : b = b' ∧ o = o' := by simpa using hA
    have hd5 : d.tag = 5 := by
      rcases hz with hz | hz
      · exact absurd hz h00
      · rw [hd] at hz
        simpa using hz
    rw [hd5] at g0
    have hke : (((k - 1 : Nat)) : Int) = (k : Int) - 1 := by omega
    have hk0 : ((k : Int) == 0) = false := by simpa using h00
    have hkt : ((k : Int) - 1).toNat = k - 1 := by omega
    clear hP hc hz hA hd hd5
    go_enter Try.func91, Try.ntmps91
    go_wp2
    go_ret
    exact ⟨by rw [HE.out]; rfl, (Below.refl _ _).alloc (Nat.le_refl _) _⟩

/-- Any other place. -/
theorem mayStand_no (A : Option Addr) (n cap k : Nat) (l : List Cst) (w : World) (hP : PoolSl w A n cap l) (hn : n ≤ 1000000) (hk : k < n) (h00 : k ≠ 0) (d : Cst) (hd : l[k - 1]? = some d) (hd5 : d.tag ≠ 5) (c : Cst) (hc : l[k]? = some c) (hf : formF c.tag = noFrm) :
    Calls Try.prog 91 #[.slice A n cap, .int .i64 (k : Int)] w fun e w' => e = .returned (.bool (mayF l k)) ∧ Below w.heap.size w w' := by
  obtain ⟨b, o, c', rfl, hc', hb, h0, h1, h2, h3, h4⟩ := pool_at hP hk
  obtain rfl : c = c' := by rw [hc] at hc'; exact Option.some.inj hc'
  obtain ⟨b', o', d', hA, hd', hb', g0, -⟩ := pool_at hP (show k - 1 < n by omega)
  obtain rfl : d = d' := by rw [hd] at hd'; exact Option.some.inj hd'
  obtain ⟨rfl, rfl⟩ : b = b' ∧ o = o' := by simpa using hA
  have HE : Hid (mayF l k = false) := Lib.hid (by
    unfold mayF
    rw [hc]
    simp only
    rw [if_neg (by rw [hd]; rintro (h | h); exact h00 h; exact hd5 (by simpa using h)), if_pos (.inl hf)])
  have hk0 : ((k : Int) == 0) = false := by simpa using h00
  have hkt : ((k : Int) - 1).toNat = k - 1 := by omega
  have hq5 : (d.tag == 5) = false := by simpa using hd5
  have CF : Hid (∀ W, Calls Try.prog 92 #[.int .i64 c.tag] W fun e w' => e = .returned noFrm.v ∧ Below W.heap.size W w') := Lib.hid (fun W => by
    have := formOf_any c.tag W
    rwa [hf] at this)
  clear hP hc hc' hA hd hd' hd5 hf
  go_enter Try.func91, Try.ntmps91
  go_wp2_with fail
  refine (CF.out _).mono ?_
  rintro e w1 ⟨rfl, hb1⟩
  simp only [noFrm, Frm.v]
  have Hb1 := Lib.hid (((Below.refl w.heap.size w).alloc (Nat.le_refl _) (.cells c.cells.toArray 30)).trans (hb1.mono (by simp)))
  clear hb1
  go_wp2
  go_quiet (fail)
  go_wp2
  go_ret
  exact ⟨by rw [HE.out]; rfl, (Hb1.out.alloc Hb1.out.size _).drewN _⟩

end Go.Proofs.Ytendpbklcgiafaa

/- The walk over pool.mayStand, where a form is asked. -/
namespace Go.Proofs.Ytendpbklcgiafaa
set_option maxRecDepth 100000
open Go.RowKit

theorem neq_c (c p : Cst) (W : World) : (binOp .neq 30 (.agg #[.int .i64 c.tag, .int .i64 c.a, .int .i64 c.b, .int .i64 c.n, .string (strB c.s)]) (.agg #[.int .i64 p.tag, .int .i64 p.a, .int .i64 p.b, .int .i64 p.n, .string (strB p.s)])).run Try.prog W = .ok (.bool (decide (c ≠ p))) W := neq_const c p W

set_option maxHeartbeats 2000000 in
theorem mayStand_form (A : Option Addr) (n cap k : Nat) (l : List Cst) (w : World) (hP : PoolSl w A n cap l) (hn : n ≤ 1000000) (hok : ∀ c ∈ l, c.ok) (hk : k < n) (h00 : k ≠ 0) (d : Cst) (hd : l[k - 1]? = some d) (hd5 : d.tag ≠ 5) (c : Cst) (hc : l[k]? = some c) (hf : formF c.tag ≠ noFrm) :
    Calls Try.prog 91 #[.slice A n cap, .int .i64 (k : Int)] w fun e w' => e = .returned (.bool (mayF l k)) ∧ Below w.heap.size w w' := by
  obtain ⟨b, o, c', rfl, hc', hb, h0, h1, h2, h3, h4⟩ := pool_at hP hk
  obtain rfl : c = c' := by rw [hc] at hc'; exact Option.some.inj hc'
  obtain ⟨b', o', d', hA, hd', hb', g0, -⟩ := pool_at hP (show k - 1 < n by omega)
  obtain rfl : d = d' := by rw [hd] at hd'; exact Option.some.inj hd'
  obtain ⟨rfl, rfl⟩ : b = b' ∧ o = o' := by simpa using hA
  obtain ⟨f, hfe⟩ : ∃ f, formF c.tag = f := ⟨_, rfl⟩
  have hfw := form_ways c.tag
  rw [hfe] at hfw hf
  obtain ⟨p, hpe⟩ : ∃ p, partF f c = p := ⟨_, rfl⟩
  have HE : Hid (mayF l k = if decide (c ≠ p) = true then false else isTextF c.s && (tagAtF l c.a == f.a) && (tagAtF l c.b == f.b)) := Lib.hid (by
    unfold mayF
    rw [hc]
    simp only
    rw [if_neg (by rw [hd]; rintro (h | h); exact h00 h; exact hd5 (by simpa using h)), hfe, hpe]
    by_cases h : c = p
    · rw [if_neg (by rintro (h' | h'); exact hf h'; exact h' h), if_neg (by simp [h])]
    · rw [if_pos (.inr h), if_pos (by simp [h])])
  have hk0 : ((k : Int) == 0) = false := by simpa using h00
  have hkt : ((k : Int) - 1).toNat = k - 1 := by omega
  have hq5 : (d.tag == 5) = false := by simpa using hd5
  have CF : Hid (∀ W, Calls Try.prog 92 #[.int .i64 c.tag] W fun e w' => e = .returned f.v ∧ Below W.heap.size W w') := Lib.hid (fun W => by
    have := formOf_any c.tag W
    rwa [hfe] at this)
  have CP : Hid (∀ W, Calls Try.prog 93 #[.agg #[.bool f.text, .int .i64 f.num, .int .i64 f.a, .int .i64 f.b], .agg #[.int .i64 c.tag, .int .i64 c.a, .int .i64 c.b, .int .i64 c.n, .string (strB c.s)]] W fun e w' => e = .returned (.agg #[.int .i64 p.tag, .int .i64 p.a, .int .i64 p.b, .int .i64 p.n, .string (strB p.s)]) ∧ Below W.heap.size W w') := Lib.hid (fun W => by
    have := part_any f hfw c W
    rwa [hpe] at this)
  have CT : Hid (∀ W, Calls Try.prog 94 #[.string (strB c.s)] W fun e w' => e = .returned (.bool (isTextF c.s)) ∧ Below W.heap.size W w') :=
    Lib.hid (fun W => isText_any c.s W (hok c (List.mem_of_getElem? hc)).s)
  have CA : Hid (∀ q W, Only Empty w W → Calls Try.prog 95 #[.slice (some ⟨b, o, none⟩) n cap, .int .i64 q] W fun e w' => e = .returned (.int .i64 (tagAtF l q)) ∧ W = w') :=
    Lib.hid (fun q W hO => tagAt_any _ n cap l q W (hP.only hO (fun _ _ h => h)) hn)
  have HQ0 := eq_noFrm f
  have HQ1 := neq_c c p
  rw [decide_eq_false hf] at HQ0
  obtain ⟨B, hB⟩ : ∃ B, decide (c ≠ p) = B := ⟨_, rfl⟩
  rw [hB] at HE HQ1
  obtain ⟨T, hT⟩ : ∃ T, isTextF c.s = T := ⟨_, rfl⟩
  rw [hT] at HE CT
  clear hP hc hc' hA hd hd' hd5 hf hfw hpe hfe hB hT hok
  go_enter Try.func91, Try.ntmps91
  go_wp2_with fail
  refine (CF.out _).mono ?_
  rintro e w1 ⟨rfl, hb1⟩
  simp only [Frm.v]
  have HK1 : Hid (Blk w1 w.heap.size 30 c.cells.toArray) := Lib.hid ((Blk.new w 30 c.cells.toArray).of (hb1.block _ (by simp)))
  have Hb1 := Lib.hid (((Below.refl w.heap.size w).alloc (Nat.le_refl _) (.cells c.cells.toArray 30)).trans (hb1.mono (by simp)))
  have HW1 : Hid (w.heap.size + 1 ≤ w1.heap.size) := Lib.hid (by have := hb1.size; simp at this; omega)
  clear hb1
  have HS : Hid (∀ W, Only Empty (w1.alloc (.cells #[.bool f.text, .int .i64 f.num, .int .i64 f.a, .int .i64 f.b] 155)) W → W.cell? ⟨w1.heap.size, 0, none⟩ = some (.bool f.text) ∧ W.cell? ⟨w1.heap.size, 1, none⟩ = some (.int .i64 f.num) ∧ W.cell? ⟨w1.heap.size, 2, none⟩ = some (.int .i64 f.a) ∧ W.cell? ⟨w1.heap.size, 3, none⟩ = some (.int .i64 f.b) ∧
      W.cell? ⟨w.heap.size, 0, none⟩ = some (.int .i64 c.tag) ∧ W.cell? ⟨w.heap.size, 1, none⟩ = some (.int .i64 c.a) ∧ W.cell? ⟨w.heap.size, 2, none⟩ = some (.int .i64 c.b) ∧ W.cell? ⟨w.heap.size, 3, none⟩ = some (.int .i64 c.n) ∧ W.cell? ⟨w.heap.size, 4, none⟩ = some (.string (strB c.s))) := Lib.hid (fun W hO => by
    have hF := hO.blk (Blk.new w1 155 #[.bool f.text, .int .i64 f.num, .int .i64 f.a, .int .i64 f.b]) (fun h => h)
    have hC := hO.blk (HK1.out.alloc _) (fun h => h)
    exact ⟨hF.cell 0, hF.cell 1, hF.cell 2, hF.cell 3, hC.cell 0, hC.cell 1, hC.cell 2, hC.cell 3, hC.cell 4⟩)
  have hO0 : Only Empty (w1.alloc (.cells #[.bool f.text, .int .i64 f.num, .int .i64 f.a, .int .i64 f.b] 155)) (w1.alloc (.cells #[.bool f.text, .int .i64 f.num, .int .i64 f.a, .int .i64 f.b] 155)).drew := (Only.refl _ _).drew
  have HO0 := Lib.hid hO0
  have hs0 := HS.out _ hO0
  clear hO0
  go_wp2
  go_region_held3 (fun W => W.cell? ⟨w1.heap.size, 0, none⟩ = some (.bool f.text) ∧ W.cell? ⟨w1.heap.size, 1, none⟩ = some (.int .i64 f.num) ∧ W.cell? ⟨w1.heap.size, 2, none⟩ = some (.int .i64 f.a) ∧ W.cell? ⟨w1.heap.size, 3, none⟩ = some (.int .i64 f.b) ∧ W.cell? ⟨w.heap.size, 0, none⟩ = some (.int .i64 c.tag) ∧ W.cell? ⟨w.heap.size, 1, none⟩ = some (.int .i64 c.a) ∧ W.cell? ⟨w.heap.size, 2, none⟩ = some (.int .i64 c.b) ∧ W.cell? ⟨w.heap.size, 3, none⟩ = some (.int .i64 c.n) ∧ W.cell? ⟨w.heap.size, 4, none⟩ = some (.string (strB c.s)))
    (first | with_reducible exact hs0 | with_reducible exact hs10)
    ((go_at_call 93; (with_reducible refine (CP.out _).mono ?_); rintro e10 w10 ⟨rfl, hb10⟩; have hO10 := HO0.out.trans (Only.of_below hb10); have hs10 := HS.out _ hO10))
  have HO10 := Lib.hid hO10
  have HB10 : Hid (Below w.heap.size w w10) := Lib.hid ((Hb1.out.alloc Hb1.out.size (.cells #[.bool f.text, .int .i64 f.num, .int .i64 f.a, .int .i64 f.b] 155)).trans (hO10.below (by have := Hb1.out.size; simp; omega) (fun _ _ h => h)))
  have HP10 : Hid (∀ q W, Only Empty w10 W → Calls Try.prog 95 #[.slice (some ⟨b, o, none⟩) n cap, .int .i64 q] W fun e w' => e = .returned (.int .i64 (tagAtF l q)) ∧ W = w') :=
    Lib.hid (fun q W hO => CA.out q W ((Only.of_below HB10.out).trans hO))
  clear hs0 hb10 hO10
  cases B with
  | true =>
    go_wp2
    go_ret
    exact ⟨by rw [HE.out]; rfl, HB10.out⟩
  | false =>
    have HS5 : Hid (∀ W, Only Empty w10 W → W.cell? ⟨w1.heap.size, 2, none⟩ = some (.int .i64 f.a) ∧ W.cell? ⟨w1.heap.size, 3, none⟩ = some (.int .i64 f.b) ∧ W.cell? ⟨w.heap.size, 1, none⟩ = some (.int .i64 c.a) ∧ W.cell? ⟨w.heap.size, 2, none⟩ = some (.int .i64 c.b) ∧ W.cell? ⟨w.heap.size, 4, none⟩ = some (.string (strB c.s))) := Lib.hid (fun W hO => by
      have h := HS.out W (HO10.out.trans hO)
      exact ⟨h.2.2.1, h.2.2.2.1, h.2.2.2.2.2.1, h.2.2.2.2.2.2.1, h.2.2.2.2.2.2.2.2⟩)
    have HOd : Hid (Only Empty w10 w10.drew) := Lib.hid (Only.refl _ _).drew
    have hsd := HS5.out _ HOd.out
    cases T with
    | false =>
      go_wp2_with fail
      refine wp_region_held_drew (S := fun W => W.cell? ⟨w1.heap.size, 2, none⟩ = some (.int .i64 f.a) ∧ W.cell? ⟨w1.heap.size, 3, none⟩ = some (.int .i64 f.b) ∧ W.cell? ⟨w.heap.size, 1, none⟩ = some (.int .i64 c.a) ∧ W.cell? ⟨w.heap.size, 2, none⟩ = some (.int .i64 c.b) ∧ W.cell? ⟨w.heap.size, 4, none⟩ = some (.string (strB c.s))) (by kernel_rfl) hsd (fun hHeld0 => ?_)
      refine take_yes 0 38 ?_ rfl rfl (by kernel_rfl) (by kernel_rfl) (by kernel_rfl) (fun _ _ _ h => h) (by kernel_rfl) ?_ (by assumption) ?_; rotate_left; (focus (intro w hSw; (try dsimp only at hSw); go_simp; all_goals first | with_reducible rfl)); simp only [Act.put, List.setIfInBounds_toArray, List.set_cons_zero, List.set_cons_succ]
      refine take_yes 1 39 ?_ rfl rfl (by kernel_rfl) (by kernel_rfl) (by kernel_rfl) (fun _ _ _ h => h) (by kernel_rfl) ?_ (by assumption) ?_; rotate_left; (focus (intro w hSw; (try dsimp only at hSw); go_simp; all_goals first | with_reducible rfl)); simp only [Act.put, List.setIfInBounds_toArray, List.set_cons_zero, List.set_cons_succ]
      refine wpAnyH_ready (rs := [2]) (by kernel_rfl) (by simp) ?_
      refine AllReadyH.cons rfl (fun K hK => ?_) AllReadyH.nil
      go_simp
      go_at_call 94; (with_reducible refine (CT.out _).mono ?_); rintro e20 w20 ⟨rfl, hb20⟩; have hO20 := HOd.out.trans (Only.of_below hb20); have hs20 := HS5.out _ hO20
      go_wp2_with fail
      refine hK.out _ _ (hs20) (fun _ => ?_)
      clear hK K
      try simp only [Act.put, List.setIfInBounds_toArray, List.set_cons_zero, List.set_cons_succ]
      refine take_yes 3 41 (.bool false) rfl rfl (by kernel_rfl) (by kernel_rfl) (by kernel_rfl) (fun _ _ _ h => h) (by kernel_rfl) ?_ (by assumption) ?_; (focus (intro w hSw; (try dsimp only at hSw); go_simp; all_goals first | with_reducible rfl)); simp only [Act.put, List.setIfInBounds_toArray, List.set_cons_zero, List.set_cons_succ]
      refine take_no 4 42 rfl rfl (by kernel_rfl) (by kernel_rfl) (by kernel_rfl) (fun _ _ _ h => h) (by kernel_rfl) (by assumption) ?_; simp only [Act.put, List.setIfInBounds_toArray, List.set_cons_zero, List.set_cons_succ]
      refine take_no 5 43 rfl rfl (by kernel_rfl) (by kernel_rfl) (by kernel_rfl) (fun _ _ _ h => h) (by kernel_rfl) (by assumption) ?_; simp only [Act.put, List.setIfInBounds_toArray, List.set_cons_zero, List.set_cons_succ]
      refine take_no 6 44 rfl rfl (by kernel_rfl) (by kernel_rfl) (by kernel_rfl) (fun _ _ _ h => h) (by kernel_rfl) (by assumption) ?_; simp only [Act.put, List.setIfInBounds_toArray, List.set_cons_zero, List.set_cons_succ]
      refine take_no 7 45 rfl rfl (by kernel_rfl) (by kernel_rfl) (by kernel_rfl) (fun _ _ _ h => h) (by kernel_rfl) (by assumption) ?_; simp only [Act.put, List.setIfInBounds_toArray, List.set_cons_zero, List.set_cons_succ]
      refine take_no 8 46 rfl rfl (by kernel_rfl) (by kernel_rfl) (by kernel_rfl) (fun _ _ _ h => h) (by kernel_rfl) (by assumption) ?_; simp only [Act.put, List.setIfInBounds_toArray, List.set_cons_zero, List.set_cons_succ]
      refine take_no 9 47 rfl rfl (by kernel_rfl) (by kernel_rfl) (by kernel_rfl) (fun _ _ _ h => h) (by kernel_rfl) (by assumption) ?_; simp only [Act.put, List.setIfInBounds_toArray, List.set_cons_zero, List.set_cons_succ]
      refine take_no 10 48 rfl rfl (by kernel_rfl) (by kernel_rfl) (by kernel_rfl) (fun _ _ _ h => h) (by kernel_rfl) (by assumption) ?_; simp only [Act.put, List.setIfInBounds_toArray, List.set_cons_zero, List.set_cons_succ]
      refine take_yes 11 49 (.bool false) rfl rfl (by kernel_rfl) (by kernel_rfl) (by kernel_rfl) (fun _ _ _ h => h) (by kernel_rfl) ?_ (by assumption) ?_; (focus (intro w hSw; (try dsimp only at hSw); go_simp; all_goals first | with_reducible rfl)); simp only [Act.put, List.setIfInBounds_toArray, List.set_cons_zero, List.set_cons_succ]
      refine take_yes 12 50 (.bool false) rfl rfl (by kernel_rfl) (by kernel_rfl) (by kernel_rfl) (fun _ _ _ h => h) (by kernel_rfl) ?_ (by assumption) ?_; (focus (intro w hSw; (try dsimp only at hSw); go_simp; all_goals first | with_reducible rfl)); simp only [Act.put, List.setIfInBounds_toArray, List.set_cons_zero, List.set_cons_succ]
      refine take_no 13 51 rfl rfl (by kernel_rfl) (by kernel_rfl) (by kernel_rfl) (fun _ _ _ h => h) (by kernel_rfl) (by assumption) ?_; simp only [Act.put, List.setIfInBounds_toArray, List.set_cons_zero, List.set_cons_succ]
      refine take_no 14 52 rfl rfl (by kernel_rfl) (by kernel_rfl) (by kernel_rfl) (fun _ _ _ h => h) (by kernel_rfl) (by assumption) ?_; simp only [Act.put, List.setIfInBounds_toArray, List.set_cons_zero, List.set_cons_succ]
      refine take_no 15 53 rfl rfl (by kernel_rfl) (by kernel_rfl) (by kernel_rfl) (fun _ _ _ h => h) (by kernel_rfl) (by assumption) ?_; simp only [Act.put, List.setIfInBounds_toArray, List.set_cons_zero, List.set_cons_succ]
      refine take_no 16 54 rfl rfl (by kernel_rfl) (by kernel_rfl) (by kernel_rfl) (fun _ _ _ h => h) (by kernel_rfl) (by assumption) ?_; simp only [Act.put, List.setIfInBounds_toArray, List.set_cons_zero, List.set_cons_succ]
      refine take_no 17 55 rfl rfl (by kernel_rfl) (by kernel_rfl) (by kernel_rfl) (fun _ _ _ h => h) (by kernel_rfl) (by assumption) ?_; simp only [Act.put, List.setIfInBounds_toArray, List.set_cons_zero, List.set_cons_succ]
      refine take_no 18 56 rfl rfl (by kernel_rfl) (by kernel_rfl) (by kernel_rfl) (fun _ _ _ h => h) (by kernel_rfl) (by assumption) ?_; simp only [Act.put, List.setIfInBounds_toArray, List.set_cons_zero, List.set_cons_succ]
      refine take_no 19 57 rfl rfl (by kernel_rfl) (by kernel_rfl) (by kernel_rfl) (fun _ _ _ h => h) (by kernel_rfl) (by assumption) ?_; simp only [Act.put, List.setIfInBounds_toArray, List.set_cons_zero, List.set_cons_succ]
      refine take_yes 20 58 ?_ rfl rfl (by kernel_rfl) (by kernel_rfl) (by kernel_rfl) (fun _ _ _ h => h) (by kernel_rfl) ?_ (by assumption) ?_; rotate_left; (focus (intro w hSw; (try dsimp only at hSw); go_simp; all_goals first | with_reducible rfl)); simp only [Act.put, List.setIfInBounds_toArray, List.set_cons_zero, List.set_cons_succ]
      refine take_yes 21 4 ?_ rfl rfl (by kernel_rfl) (by kernel_rfl) (by kernel_rfl) (fun _ _ _ h => h) (by kernel_rfl) ?_ (by assumption) ?_; rotate_left; (focus (intro w hSw; (try dsimp only at hSw); go_simp; all_goals first | with_reducible rfl)); simp only [Act.put, List.setIfInBounds_toArray, List.set_cons_zero, List.set_cons_succ]
      refine wpAnyH_done (by kernel_rfl) ?_ _
      go_wp2
      go_ret
      exact ⟨by rw [HE.out]; rfl, HB10.out.trans (hO20.below HB10.out.size (fun _ _ h => h))⟩
    | true =>
      obtain ⟨X, hX⟩ : ∃ X, (tagAtF l c.a == f.a) = X := ⟨_, rfl⟩
      obtain ⟨Y, hY⟩ : ∃ Y, (tagAtF l c.b == f.b) = Y := ⟨_, rfl⟩
      rw [hX, hY] at HE
      go_wp2_with fail
      refine wp_region_held_drew (S := fun W => W.cell? ⟨w1.heap.size, 2, none⟩ = some (.int .i64 f.a) ∧ W.cell? ⟨w1.heap.size, 3, none⟩ = some (.int .i64 f.b) ∧ W.cell? ⟨w.heap.size, 1, none⟩ = some (.int .i64 c.a) ∧ W.cell? ⟨w.heap.size, 2, none⟩ = some (.int .i64 c.b) ∧ W.cell? ⟨w.heap.size, 4, none⟩ = some (.string (strB c.s))) (by kernel_rfl) hsd (fun hHeld0 => ?_)
      refine take_yes 0 38 ?_ rfl rfl (by kernel_rfl) (by kernel_rfl) (by kernel_rfl) (fun _ _ _ h => h) (by kernel_rfl) ?_ (by assumption) ?_; rotate_left; (focus (intro w hSw; (try dsimp only at hSw); go_simp; all_goals first | with_reducible rfl)); simp only [Act.put, List.setIfInBounds_toArray, List.set_cons_zero, List.set_cons_succ]
      refine take_yes 1 39 ?_ rfl rfl (by kernel_rfl) (by kernel_rfl) (by kernel_rfl) (fun _ _ _ h => h) (by kernel_rfl) ?_ (by assumption) ?_; rotate_left; (focus (intro w hSw; (try dsimp only at hSw); go_simp; all_goals first | with_reducible rfl)); simp only [Act.put, List.setIfInBounds_toArray, List.set_cons_zero, List.set_cons_succ]
      refine wpAnyH_ready (rs := [2]) (by kernel_rfl) (by simp) ?_
      refine AllReadyH.cons rfl (fun K hK => ?_) AllReadyH.nil
      go_simp
      go_at_call 94; (with_reducible refine (CT.out _).mono ?_); rintro e20 w20 ⟨rfl, hb20⟩; have hO20 := HOd.out.trans (Only.of_below hb20); have hs20 := HS5.out _ hO20
      go_wp2_with fail
      refine hK.out _ _ (hs20) (fun _ => ?_)
      clear hK K
      try simp only [Act.put, List.setIfInBounds_toArray, List.set_cons_zero, List.set_cons_succ]
      refine take_yes 3 41 (.bool true) rfl rfl (by kernel_rfl) (by kernel_rfl) (by kernel_rfl) (fun _ _ _ h => h) (by kernel_rfl) ?_ (by assumption) ?_; (focus (intro w hSw; (try dsimp only at hSw); go_simp; all_goals first | with_reducible rfl)); simp only [Act.put, List.setIfInBounds_toArray, List.set_cons_zero, List.set_cons_succ]
      refine take_yes 4 42 ?_ rfl rfl (by kernel_rfl) (by kernel_rfl) (by kernel_rfl) (fun _ _ _ h => h) (by kernel_rfl) ?_ (by assumption) ?_; rotate_left; (focus (intro w hSw; (try dsimp only at hSw); go_simp; all_goals first | with_reducible rfl)); simp only [Act.put, List.setIfInBounds_toArray, List.set_cons_zero, List.set_cons_succ]
      refine take_yes 5 43 ?_ rfl rfl (by kernel_rfl) (by kernel_rfl) (by kernel_rfl) (fun _ _ _ h => h) (by kernel_rfl) ?_ (by assumption) ?_; rotate_left; (focus (intro w hSw; (try dsimp only at hSw); go_simp; all_goals first | with_reducible rfl)); simp only [Act.put, List.setIfInBounds_toArray, List.set_cons_zero, List.set_cons_succ]
      refine take_yes 6 44 ?_ rfl rfl (by kernel_rfl) (by kernel_rfl) (by kernel_rfl) (fun _ _ _ h => h) (by kernel_rfl) ?_ (by assumption) ?_; rotate_left; (focus (intro w hSw; (try dsimp only at hSw); go_simp; all_goals first | with_reducible rfl)); simp only [Act.put, List.setIfInBounds_toArray, List.set_cons_zero, List.set_cons_succ]
      refine take_yes 8 46 ?_ rfl rfl (by kernel_rfl) (by kernel_rfl) (by kernel_rfl) (fun _ _ _ h => h) (by kernel_rfl) ?_ (by assumption) ?_; rotate_left; (focus (intro w hSw; (try dsimp only at hSw); go_simp; all_goals first | with_reducible rfl)); simp only [Act.put, List.setIfInBounds_toArray, List.set_cons_zero, List.set_cons_succ]
      refine take_yes 9 47 ?_ rfl rfl (by kernel_rfl) (by kernel_rfl) (by kernel_rfl) (fun _ _ _ h => h) (by kernel_rfl) ?_ (by assumption) ?_; rotate_left; (focus (intro w hSw; (try dsimp only at hSw); go_simp; all_goals first | with_reducible rfl)); simp only [Act.put, List.setIfInBounds_toArray, List.set_cons_zero, List.set_cons_succ]
      refine wpAnyH_ready (rs := [7]) (by kernel_rfl) (by simp) ?_
      refine AllReadyH.cons rfl (fun K hK => ?_) AllReadyH.nil
      go_simp
      go_at_call 95; (with_reducible refine (HP10.out _ _ hO20).mono ?_); rintro e30 w30 ⟨rfl, rfl⟩
      go_wp2_with fail
      refine hK.out _ _ (hs20) (fun _ => ?_)
      clear hK K
      try simp only [Act.put, List.setIfInBounds_toArray, List.set_cons_zero, List.set_cons_succ]
      cases X with
      | false =>
        refine take_yes 10 48 (.bool false) rfl rfl (by kernel_rfl) (by kernel_rfl) (by kernel_rfl) (fun _ _ _ h => h) (by kernel_rfl) ?_ (by assumption) ?_; (focus (intro w hSw; (try dsimp only at hSw); go_simp; all_goals first | with_reducible rfl | simp [hX])); simp only [Act.put, List.setIfInBounds_toArray, List.set_cons_zero, List.set_cons_succ]
        refine take_yes 11 49 (.bool false) rfl rfl (by kernel_rfl) (by kernel_rfl) (by kernel_rfl) (fun _ _ _ h => h) (by kernel_rfl) ?_ (by assumption) ?_; (focus (intro w hSw; (try dsimp only at hSw); go_simp; all_goals first | with_reducible rfl)); simp only [Act.put, List.setIfInBounds_toArray, List.set_cons_zero, List.set_cons_succ]
        refine take_yes 12 50 (.bool false) rfl rfl (by kernel_rfl) (by kernel_rfl) (by kernel_rfl) (fun _ _ _ h => h) (by kernel_rfl) ?_ (by assumption) ?_; (focus (intro w hSw; (try dsimp only at hSw); go_simp; all_goals first | with_reducible rfl)); simp only [Act.put, List.setIfInBounds_toArray, List.set_cons_zero, List.set_cons_succ]
        refine take_no 13 51 rfl rfl (by kernel_rfl) (by kernel_rfl) (by kernel_rfl) (fun _ _ _ h => h) (by kernel_rfl) (by assumption) ?_; simp only [Act.put, List.setIfInBounds_toArray, List.set_cons_zero, List.set_cons_succ]
        refine take_no 14 52 rfl rfl (by kernel_rfl) (by kernel_rfl) (by kernel_rfl) (fun _ _ _ h => h) (by kernel_rfl) (by assumption) ?_; simp only [Act.put, List.setIfInBounds_toArray, List.set_cons_zero, List.set_cons_succ]
        refine take_no 15 53 rfl rfl (by kernel_rfl) (by kernel_rfl) (by kernel_rfl) (fun _ _ _ h => h) (by kernel_rfl) (by assumption) ?_; simp only [Act.put, List.setIfInBounds_toArray, List.set_cons_zero, List.set_cons_succ]
        refine take_no 16 54 rfl rfl (by kernel_rfl) (by kernel_rfl) (by kernel_rfl) (fun _ _ _ h => h) (by kernel_rfl) (by assumption) ?_; simp only [Act.put, List.setIfInBounds_toArray, List.set_cons_zero, List.set_cons_succ]
        refine take_no 17 55 rfl rfl (by kernel_rfl) (by kernel_rfl) (by kernel_rfl) (fun _ _ _ h => h) (by kernel_rfl) (by assumption) ?_; simp only [Act.put, List.setIfInBounds_toArray, List.set_cons_zero, List.set_cons_succ]
        refine take_no 18 56 rfl rfl (by kernel_rfl) (by kernel_rfl) (by kernel_rfl) (fun _ _ _ h => h) (by kernel_rfl) (by assumption) ?_; simp only [Act.put, List.setIfInBounds_toArray, List.set_cons_zero, List.set_cons_succ]
        refine take_no 19 57 rfl rfl (by kernel_rfl) (by kernel_rfl) (by kernel_rfl) (fun _ _ _ h => h) (by kernel_rfl) (by assumption) ?_; simp only [Act.put, List.setIfInBounds_toArray, List.set_cons_zero, List.set_cons_succ]
        refine take_yes 20 58 ?_ rfl rfl (by kernel_rfl) (by kernel_rfl) (by kernel_rfl) (fun _ _ _ h => h) (by kernel_rfl) ?_ (by assumption) ?_; rotate_left; (focus (intro w hSw; (try dsimp only at hSw); go_simp; all_goals first | with_reducible rfl)); simp only [Act.put, List.setIfInBounds_toArray, List.set_cons_zero, List.set_cons_succ]
        refine take_yes 21 4 ?_ rfl rfl (by kernel_rfl) (by kernel_rfl) (by kernel_rfl) (fun _ _ _ h => h) (by kernel_rfl) ?_ (by assumption) ?_; rotate_left; (focus (intro w hSw; (try dsimp only at hSw); go_simp; all_goals first | with_reducible rfl)); simp only [Act.put, List.setIfInBounds_toArray, List.set_cons_zero, List.set_cons_succ]
        refine wpAnyH_done (by kernel_rfl) ?_ _
        go_wp2
        go_ret
        exact ⟨by rw [HE.out]; rfl, HB10.out.trans (hO20.below HB10.out.size (fun _ _ h => h))⟩
      | true =>
        refine take_yes 10 48 (.bool true) rfl rfl (by kernel_rfl) (by kernel_rfl) (by kernel_rfl) (fun _ _ _ h => h) (by kernel_rfl) ?_ (by assumption) ?_; (focus (intro w hSw; (try dsimp only at hSw); go_simp; all_goals first | with_reducible rfl | simp [hX])); simp only [Act.put, List.setIfInBounds_toArray, List.set_cons_zero, List.set_cons_succ]
        refine take_yes 11 49 (.bool true) rfl rfl (by kernel_rfl) (by kernel_rfl) (by kernel_rfl) (fun _ _ _ h => h) (by kernel_rfl) ?_ (by assumption) ?_; (focus (intro w hSw; (try dsimp only at hSw); go_simp; all_goals first | with_reducible rfl)); simp only [Act.put, List.setIfInBounds_toArray, List.set_cons_zero, List.set_cons_succ]
        refine take_yes 12 50 (.bool true) rfl rfl (by kernel_rfl) (by kernel_rfl) (by kernel_rfl) (fun _ _ _ h => h) (by kernel_rfl) ?_ (by assumption) ?_; (focus (intro w hSw; (try dsimp only at hSw); go_simp; all_goals first | with_reducible rfl)); simp only [Act.put, List.setIfInBounds_toArray, List.set_cons_zero, List.set_cons_succ]
        refine take_yes 13 51 ?_ rfl rfl (by kernel_rfl) (by kernel_rfl) (by kernel_rfl) (fun _ _ _ h => h) (by kernel_rfl) ?_ (by assumption) ?_; rotate_left; (focus (intro w hSw; (try dsimp only at hSw); go_simp; all_goals first | with_reducible rfl)); simp only [Act.put, List.setIfInBounds_toArray, List.set_cons_zero, List.set_cons_succ]
        refine take_yes 14 52 ?_ rfl rfl (by kernel_rfl) (by kernel_rfl) (by kernel_rfl) (fun _ _ _ h => h) (by kernel_rfl) ?_ (by assumption) ?_; rotate_left; (focus (intro w hSw; (try dsimp only at hSw); go_simp; all_goals first | with_reducible rfl)); simp only [Act.put, List.setIfInBounds_toArray, List.set_cons_zero, List.set_cons_succ]
        refine take_yes 15 53 ?_ rfl rfl (by kernel_rfl) (by kernel_rfl) (by kernel_rfl) (fun _ _ _ h => h) (by kernel_rfl) ?_ (by assumption) ?_; rotate_left; (focus (intro w hSw; (try dsimp only at hSw); go_simp; all_goals first | with_reducible rfl)); simp only [Act.put, List.setIfInBounds_toArray, List.set_cons_zero, List.set_cons_succ]
        refine take_yes 17 55 ?_ rfl rfl (by kernel_rfl) (by kernel_rfl) (by kernel_rfl) (fun _ _ _ h => h) (by kernel_rfl) ?_ (by assumption) ?_; rotate_left; (focus (intro w hSw; (try dsimp only at hSw); go_simp; all_goals first | with_reducible rfl)); simp only [Act.put, List.setIfInBounds_toArray, List.set_cons_zero, List.set_cons_succ]
        refine take_yes 18 56 ?_ rfl rfl (by kernel_rfl) (by kernel_rfl) (by kernel_rfl) (fun _ _ _ h => h) (by kernel_rfl) ?_ (by assumption) ?_; rotate_left; (focus (intro w hSw; (try dsimp only at hSw); go_simp; all_goals first | with_reducible rfl)); simp only [Act.put, List.setIfInBounds_toArray, List.set_cons_zero, List.set_cons_succ]
        refine wpAnyH_ready (rs := [16]) (by kernel_rfl) (by simp) ?_
        refine AllReadyH.cons rfl (fun K hK => ?_) AllReadyH.nil
        go_simp
        go_at_call 95; (with_reducible refine (HP10.out _ _ hO20).mono ?_); rintro e30 w30 ⟨rfl, rfl⟩
        go_wp2_with fail
        refine hK.out _ _ (hs20) (fun _ => ?_)
        clear hK K
        try simp only [Act.put, List.setIfInBounds_toArray, List.set_cons_zero, List.set_cons_succ]
        refine take_yes 19 57 (.bool Y) rfl rfl (by kernel_rfl) (by kernel_rfl) (by kernel_rfl) (fun _ _ _ h => h) (by kernel_rfl) ?_ (by assumption) ?_; (focus (intro w hSw; (try dsimp only at hSw); go_simp; all_goals first | with_reducible rfl | simp [hY])); simp only [Act.put, List.setIfInBounds_toArray, List.set_cons_zero, List.set_cons_succ]
        refine take_yes 20 58 ?_ rfl rfl (by kernel_rfl) (by kernel_rfl) (by kernel_rfl) (fun _ _ _ h => h) (by kernel_rfl) ?_ (by assumption) ?_; rotate_left; (focus (intro w hSw; (try dsimp only at hSw); go_simp; all_goals first | with_reducible rfl)); simp only [Act.put, List.setIfInBounds_toArray, List.set_cons_zero, List.set_cons_succ]
        refine take_yes 21 4 ?_ rfl rfl (by kernel_rfl) (by kernel_rfl) (by kernel_rfl) (fun _ _ _ h => h) (by kernel_rfl) ?_ (by assumption) ?_; rotate_left; (focus (intro w hSw; (try dsimp only at hSw); go_simp; all_goals first | with_reducible rfl)); simp only [Act.put, List.setIfInBounds_toArray, List.set_cons_zero, List.set_cons_succ]
        refine wpAnyH_done (by kernel_rfl) ?_ _
        go_wp2
        go_ret
        exact ⟨by rw [HE.out]; rfl, HB10.out.trans (hO20.below HB10.out.size (fun _ _ h => h))⟩

end Go.Proofs.Ytendpbklcgiafaa
