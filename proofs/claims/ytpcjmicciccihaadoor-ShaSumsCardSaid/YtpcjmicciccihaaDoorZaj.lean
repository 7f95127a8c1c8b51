/- The document's constants: the primes' walk, Keys. -/
import Derived.Test.YtpcjmicciccihaaDoorZai
import Derived.Test.YtpcjmicciccihaaDoorZag
namespace Go.Proofs.YtpcjmicciccihaaDoor
set_option maxRecDepth 100000
open Go.RowKit

theorem primesN_in (k : Nat) : ∀ q ∈ primesN k, 2 ≤ q ∧ q ≤ k + 1 := by
  induction k with
  | zero => intro q hq; cases hq
  | succ k ih =>
    intro q hq
    unfold primesN at hq
    split at hq
    · rcases List.mem_append.1 hq with h | h
      · have := ih q h; omega
      · rw [List.mem_singleton.1 h]; omega
    · have := ih q hq; omega

set_option maxHeartbeats 4000000 in
theorem primes_any (w : World) : Calls Tryd.prog 22 #[.int .i64 64] w fun e w' => ∃ A c, e = .returned (.slice A 64 c) ∧ GotU w.heap.size w' A 64 c (primesN 310) ∧ Below w.heap.size w w' := by
  go_enter Tryd.func22, Tryd.ntmps22
  go_wp2_with fail
  go_loopw [3, 4] (fun o pv wr => ∃ (k m c : Nat) (A : Option Addr), k ≤ 310 ∧ m = (primesN k).length ∧ o = .slice A m c ∧ pv = .int .u64 ((k + 2 : Nat) : Int) ∧ Hid (GotU w.heap.size wr A m c (primesN k)) ∧ Hid (Below w.heap.size w wr)) (fun _ pv _ => 400 - (intOf pv).toNat)
  case atStart => exact ⟨0, 0, 0, none, by omega, rfl, rfl, rfl, Lib.hid (GotR.nil_ _ _ _ _ _), Lib.hid (Below.refl _ _)⟩
  case round =>
    obtain ⟨k, m, c, A, hk, hm, rfl, rfl, HG, HW⟩ := hrel
    have HM := Lib.hid hm
    have hsW := HW.out.size
    by_cases hk310 : k < 310
    · have hm64 : m < 64 := by rw [hm]; exact primes_few k hk310
      have hmI : (m : Int) < 64 := by omega
      obtain ⟨P, hP⟩ : ∃ P, P = k + 2 := ⟨_, rfl⟩
      rw [← hP]
      have HP := Lib.hid hP
      have hPb : P ≤ 312 := by omega
      clear hm hP
      go_wp2_with fail
      go_loopw [5, 16] (fun b i wx => ∃ (j : Nat) (bb : Bool), j ≤ m ∧ b = .bool bb ∧ i = .int .i64 (j : Int) ∧ Hid (bb = primeB ((primesN k).take j) P) ∧ Hid (GotU w.heap.size wx A m c (primesN k)) ∧ Hid (Below w.heap.size w wx)) (fun _ i _ => m - (intOf i).toNat)
      case atStart => exact ⟨0, true, by omega, rfl, rfl, Lib.hid rfl, HG, HW⟩
      case round =>
        clear HG HW hsW
        obtain ⟨j, bb, hj, rfl, rfl, HBb, HG, HW⟩ := hrel
        have hsW := HW.out.size
        by_cases hjm : j < m
        · obtain ⟨ga, rfl, hga⟩ := got_some (f := UV) HG.out (by omega)
          obtain ⟨q, hq⟩ : ∃ q, (primesN k)[j]? = some q := ⟨_, List.getElem?_eq_getElem (by rw [← HM.out]; exact hjm)⟩
          have hqi := primesN_in k q (List.mem_of_getElem? hq)
          have hcq : wr.cell? ⟨ga, j, none⟩ = some (.int .u64 (q : Int)) := (got_cell (f := UV) HG.out hq).1
          have HN : Hid (primeB ((primesN k).take (j + 1)) P = (bb && decide (P % q ≠ 0))) := Lib.hid (by
            obtain ⟨h1, h2⟩ := List.getElem?_eq_some_iff.1 hq
            rw [List.take_succ_eq_append_getElem h1, h2, HBb.out]
            simp [primeB])
          have hjI : (j : Int) < (m : Int) := by omega
          have hq0 : ¬ ((q : Int) = 0) := by omega
          have hqm : (P : Int).tmod (q : Int) = ((P % q : Nat) : Int) := by rw [Int.tmod_eq_emod_of_nonneg (by omega)]; simp
          have hqm2 : (P : Int) % (q : Int) = ((P % q : Nat) : Int) := by simp
          obtain ⟨r, hr⟩ : ∃ r, r = P % q := ⟨_, rfl⟩
          rw [← hr] at hqm hqm2 HN
          clear hq hr
          cases bb with
          | false =>
            go_wp2
            exact ⟨⟨j + 1, false, by omega, rfl, by go_num, Lib.hid (by rw [HN.out]; rfl), HG, HW⟩, by simp only [intOf]; omega⟩
          | true =>
            go_wp2
            exact ⟨⟨j + 1, decide (r ≠ 0), by omega, by congr 1; rw [Bool.eq_iff_iff]; simp, by go_num, Lib.hid (by rw [HN.out]; rfl), HG, HW⟩, by simp only [intOf]; omega⟩
        · have HBp : Hid (bb = primeB (primesN k) P) := Lib.hid (by rw [HBb.out, List.take_of_length_le (by rw [← HM.out]; omega)])
          cases bb with
          | false =>
            go_wp2
            refine ⟨⟨k + 1, m, c, A, by omega, ?_, rfl, by rw [HP.out]; go_num, Lib.hid ?_, HW⟩, by simp only [intOf]; omega⟩
            · rw [primesN, ← HP.out, ← HBp.out]; simpa using HM.out
            · rw [primesN, ← HP.out, ← HBp.out]; simpa using HG.out
          | true =>
            obtain ⟨A9, c9, w9, hrun9, hG9, hW9⟩ := appU (m := 1) (l := [P]) (w := wr.alloc (.cells #[.int .u64 (P : Int)] 38)) (GotR.alloc (cells := fun x => [UV x]) (fun _ => rfl) HG.out (.cells #[.int .u64 (P : Int)] 38)) (Blk.new wr _ _) rfl (by omega) (by simp; exact Nat.le_succ_of_le hsW) (Nat.le_refl _) (HW.out.alloc hsW _)
            go_wp2_with (at_builtin; refine wpList_append_eqU rfl (.tmp 29) (.tmp 31) rfl rfl rfl rfl hrun9 ?_)
            refine ⟨⟨k + 1, m + 1, c9, A9, by omega, ?_, rfl, by rw [HP.out]; go_num, Lib.hid ?_, Lib.hid hW9⟩, by simp only [intOf]; omega⟩
            · rw [primesN, ← HP.out, ← HBp.out, if_pos rfl, List.length_append, ← HM.out]; rfl
            · rw [primesN, ← HP.out, ← HBp.out, if_pos rfl]; exact hG9
    · obtain rfl : k = 310 := by omega
      have hm64 : m = 64 := by rw [hm, primes_64]
      subst hm64
      clear hm
      go_wp2
      go_ret
      exact ⟨A, c, rfl, HG.out, HW.out⟩
theorem infoU32h : (Tryd.prog.info? 40).map (fun i => (i.zero, i.size, i.bytes)) = some (some (.int .u32 0), 1, 4) := by kernel_rfl
/-- What a call made: a row of words. -/
def GotW (base : Nat) (w : World) (A : Option Addr) (n cap : Nat) (l : List UInt32) : Prop := GotR (fun x => [WV x]) 1 40 base w A n cap l
theorem appW {base base0 : Nat} {w0 w : World} {B : Option Addr} {m0 c0 : Nat} {zs : List UInt32} (hown : GotW base w B m0 c0 zs) {ga m : Nat} {l : List UInt32} (h : Blk w ga 40 (l.map WV).toArray) (hl : l.length = m) (hm : m0 + m ≤ 1000000) (hbase : base ≤ w.heap.size) (hb0 : base0 ≤ base) (hbel : Below base0 w0 w) :
    ∃ A' c' w', (Builtin.append_ #[41, 41] 41 #[.slice B m0 c0, .slice (some ⟨ga, 0, none⟩) m m]).run Tryd.prog w = .ok (.slice A' (m0 + m) c') w' ∧ GotW base w' A' (m0 + m) c' (zs ++ l) ∧ Below base0 w0 w' ∧ w.grownBy w' (Value.slice B m0 c0).ownBlock := by
  have hB : RowSl (fun x => [WV x]) 1 w Empty (some ⟨ga, 0, none⟩) m m l := RowSl.of_blk (fun _ => rfl) h hl (Nat.le_refl _) (by unfold maxLen; omega) (fun j _ => by rw [one_flat, List.getElem?_toArray]) (fun h => h)
  obtain ⟨A', c', w', h1, h2, h3, h4⟩ := run_append_rows (cells := fun x => [WV x]) (k := 1) (fun _ => rfl) (fun _ v hv => by rw [List.mem_singleton.1 hv]; rfl) (by omega) 41 40 (.int .u32 0) 4 Tryd.underlying41 infoU32h rfl (by omega) 41 base B m0 c0 zs hown ⟨ga, 0, none⟩ m m l hB (by omega) hbase
  exact ⟨A', c', w', h1, h2, below_gotR hbel (Nat.le_trans hb0 hbase) h3 h4 hb0, h3⟩

set_option maxHeartbeats 4000000 in
theorem keys_any (w : World) : Calls Tryd.prog 16 #[] w fun e w' => ∃ A c, e = .returned (.slice A 64 c) ∧ GotW w.heap.size w' A 64 c rootsL ∧ Below w.heap.size w w' := by
  go_enter Tryd.func16, Tryd.ntmps16
  go_wp2_with fail
  refine (primes_any w).mono ?_
  rintro e w1 ⟨A1, c1, rfl, hG1, hw1⟩
  obtain ⟨ga, rfl, hga⟩ := got_some (f := UV) hG1 (by omega)
  obtain ⟨PL, hPL⟩ : ∃ PL, PL = primesN 310 := ⟨_, rfl⟩
  have HPl : Hid (PL.length = 64) := Lib.hid (by rw [hPL]; exact primes_64)
  have HPq : Hid (∀ q ∈ PL, q < 400) := Lib.hid (by rw [hPL]; exact primes_lt)
  have HPk : Hid (PL.map rootF = rootsL) := Lib.hid (by rw [hPL]; exact keys_eq)
  rw [← hPL] at hG1
  have HG1 := Lib.hid hG1
  have HW1 := Lib.hid hw1
  clear hG1 hw1 hPL
  go_wp2_with fail
  go_loopw [1, 6] (fun o i wr => ∃ (k c : Nat) (A : Option Addr), k ≤ 64 ∧ o = .slice A k c ∧ i = .int .i64 (k : Int) ∧ Hid (GotW w1.heap.size wr A k c ((PL.take k).map rootF)) ∧ Hid (Below w1.heap.size w1 wr)) (fun _ i _ => 64 - (intOf i).toNat)
  case atStart => exact ⟨0, 0, none, by omega, rfl, rfl, Lib.hid (GotR.nil_ _ _ _ _ _), Lib.hid (Below.refl _ _)⟩
  case round =>
    obtain ⟨k, c, A, hk, rfl, rfl, HG, HW⟩ := hrel
    have hsW := HW.out.size
    by_cases hk64 : k < 64
    · obtain ⟨q, hq⟩ : ∃ q, PL[k]? = some q := ⟨_, List.getElem?_eq_getElem (by rw [HPl.out]; exact hk64)⟩
      have hqi := HPq.out q (List.mem_of_getElem? hq)
      have hcq0 := got_cell (f := UV) HG1.out hq
      have hcq : wr.cell? ⟨ga, k, none⟩ = some (.int .u64 (q : Int)) := by
        rw [(Only.of_below HW.out : Only Empty w1 wr).cell hcq0.2.2 (fun h => h)]
        exact hcq0.1
      have hkI : (k : Int) < 64 := by omega
      have HN : Hid ((PL.take (k + 1)).map rootF = (PL.take k).map rootF ++ [rootF q]) := Lib.hid (by
        obtain ⟨h1, h2⟩ := List.getElem?_eq_some_iff.1 hq
        rw [List.take_succ_eq_append_getElem h1, h2, List.map_append]; rfl)
      clear hq hcq0
      go_wp2_with fail
      refine (root_any wr q (by omega)).mono ?_
      rintro e w2 ⟨rfl, hb2⟩
      have hs2 : w1.heap.size ≤ w2.heap.size := Nat.le_trans hsW hb2.size
      have hbl := HW.out.trans (hb2.mono hsW)
      obtain ⟨A9, c9, w9, hrun9, hG9, hW9, -⟩ := appW (m := 1) (l := [rootF q]) (w := w2.alloc (.cells #[WV (rootF q)] 40)) (base0 := w1.heap.size) (w0 := w1) (GotR.alloc (cells := fun x => [WV x]) (fun _ => rfl) (GotR.below (fun _ => rfl) HG.out hb2) (.cells #[WV (rootF q)] 40)) (Blk.new w2 _ _) rfl (by omega) (by simp; exact Nat.le_succ_of_le hs2) (Nat.le_refl _) (hbl.alloc hs2 _)
      have HG9 := Lib.hid hG9
      have HW9 := Lib.hid hW9
      clear hG9 hW9 hb2 hbl
      unfold WV at hrun9 ⊢
      go_wp2_with (at_builtin; refine wpList_append_eqU rfl (.tmp 10) (.tmp 13) rfl rfl rfl rfl hrun9 ?_)
      go_roundw
      case rel => exact ⟨k + 1, c9, A9, by omega, rfl, by go_num, Lib.hid (by rw [HN.out]; exact HG9.out), HW9⟩
      case measure => simp [intOf]; omega
    · have hk2 : k = 64 := by omega
      have HE : Hid (GotW w.heap.size wr A 64 c rootsL) := Lib.hid (by
        have h := HG.out
        rw [hk2, List.take_of_length_le (by rw [HPl.out]; exact Nat.le_refl _), HPk.out] at h
        exact GotR.lower h HW1.out.size)
      subst hk2
      go_wp2
      go_ret
      exact ⟨A, c, rfl, HE.out, HW1.out.trans (HW.out.mono HW1.out.size)⟩
end Go.Proofs.YtpcjmicciccihaaDoor

/- The document's block: a word of four bytes; rows of words that are made. -/
namespace Go.Proofs.YtpcjmicciccihaaDoor
set_option maxRecDepth 100000
open Go.RowKit

theorem madeW (n : Nat) : madeCells #[.int .u32 0] n = ((List.replicate n 0).map WV).toArray := by
  apply Array.ext_getElem?
  intro i
  rw [row_get, List.getElem?_replicate]
  by_cases h : i < n
  · simp [madeCells, h, Nat.mod_one, WV]
  · simp [madeCells, h]
theorem run_makeW (n : Nat) (hm : n ≤ 1000000) (W : World) :
    (Instr.makeSlice 41 (.int .i64 (n : Int)) (.int .i64 (n : Int))).run Tryd.prog W = .ok (.slice (some ⟨W.heap.size, 0, none⟩) n n) (W.alloc (.cells ((List.replicate n 0).map WV).toArray 40)) := by
  obtain ⟨i0, hi, hz0, hz1, hz2⟩ := info_parts infoU32h
  have hr := run_make (P := Tryd.prog) W 41 40 i0 (.int .u32 0) Tryd.underlying41 hi hz0 .i64 .i64 n n (by omega) (by omega) (by rw [hz2]; omega) (by omega)
  simp only [Int.toNat_natCast, hz1, Nat.mul_one] at hr
  rw [← madeW]
  exact hr

theorem word_int (x0 x1 x2 x3 : UInt8) : bits .or .u32 (bits .or .u32 (bits .or .u32 (IntKind.u32.wrap (IntKind.u32.wrap (x0.toNat : Int) * 16777216)) (IntKind.u32.wrap (IntKind.u32.wrap (x1.toNat : Int) * 65536))) (IntKind.u32.wrap (IntKind.u32.wrap (x2.toNat : Int) * 256))) (IntKind.u32.wrap (x3.toNat : Int)) = ((UInt32.ofNat (((x0.toNat * 256 + x1.toNat) * 256 + x2.toNat) * 256 + x3.toNat)).toNat : Int) := by
  obtain ⟨a, ha⟩ : ∃ a, a = x0.toNat := ⟨_, rfl⟩
  obtain ⟨b, hb⟩ : ∃ b, b = x1.toNat := ⟨_, rfl⟩
  obtain ⟨c, hc⟩ : ∃ c, c = x2.toNat := ⟨_, rfl⟩
  obtain ⟨d, hd⟩ : ∃ d, d = x3.toNat := ⟨_, rfl⟩
  have b0 : a < 256 := by rw [ha]; exact byte_lt x0
  have b1 : b < 256 := by rw [hb]; exact byte_lt x1
  have b2 : c < 256 := by rw [hc]; exact byte_lt x2
  have b3 : d < 256 := by rw [hd]; exact byte_lt x3
  rw [← ha, ← hb, ← hc, ← hd]
  rw [UInt32.toNat_ofNat', Nat.mod_eq_of_lt (by omega)]
  rw [show IntKind.u32.wrap (IntKind.u32.wrap (a : Int) * 16777216) = ((2 ^ 24 * a : Nat) : Int) by rw [IntKind.wrap_u32, IntKind.wrap_u32]; omega,
    show IntKind.u32.wrap (IntKind.u32.wrap (b : Int) * 65536) = ((b * 65536 : Nat) : Int) by rw [IntKind.wrap_u32, IntKind.wrap_u32]; omega,
    show IntKind.u32.wrap (IntKind.u32.wrap (c : Int) * 256) = ((c * 256 : Nat) : Int) by rw [IntKind.wrap_u32, IntKind.wrap_u32]; omega,
    show IntKind.u32.wrap (d : Int) = (d : Int) by rw [IntKind.wrap_u32]; omega]
  rw [u32_or_nat _ _ (by omega) (by omega), ← Nat.two_pow_add_eq_or_of_lt (show b * 65536 < 2 ^ 24 by omega) a]
  rw [show 2 ^ 24 * a + b * 65536 = 2 ^ 16 * (256 * a + b) by omega, u32_or_nat _ _ (by omega) (by omega), ← Nat.two_pow_add_eq_or_of_lt (show c * 256 < 2 ^ 16 by omega) (256 * a + b)]
  rw [show 2 ^ 16 * (256 * a + b) + c * 256 = 2 ^ 8 * (65536 * a + 256 * b + c) by omega, u32_or_nat _ _ (by omega) (by omega), ← Nat.two_pow_add_eq_or_of_lt (show d < 2 ^ 8 by omega) (65536 * a + 256 * b + c)]
  omega
end Go.Proofs.YtpcjmicciccihaaDoor

/- The document's block: its walk. -/
namespace Go.Proofs.YtpcjmicciccihaaDoor
set_option maxRecDepth 100000
open Go.RowKit

theorem turnQ (x : UInt32) (n : Nat) (h1 : 1 ≤ n) (h2 : n ≤ 31) (w : World) (k : Nat) : Calls Tryd.prog 24 #[.int .u32 (x.toNat : Int), .int .i64 (n : Int)] (w.drewN k) fun e w'' => e = .returned (.int .u32 ((rotr x n).toNat : Int)) ∧ ∃ m, w'' = w.drewN m :=
  Calls.quiet_of_same ((r21turn_any x n h1 h2 _).mono fun _ _ h => ⟨h.1, h.2.symm⟩)

def rowO (v s : W8) (k : Nat) : Array Value := (((addW v s).l.take k ++ List.replicate (8 - k) 0).map WV).toArray
theorem rowO_set (v s : W8) (k : Nat) (a b : UInt32) (ha : v.l[k]? = some a) (hb : s.l[k]? = some b) : (rowO v s k).setIfInBounds k (WV (a + b)) = rowO v s (k + 1) := by
  have hk : k < 8 := (List.getElem?_eq_some_iff.1 ha).1
  rcases k with _ | _ | _ | _ | _ | _ | _ | _ | k
  all_goals first
    | omega
    | (cases ha; cases hb; rfl)
theorem rowO_all (v s : W8) : rowO v s 8 = ((addW v s).l.map WV).toArray := rfl
theorem rowO_size (v s : W8) (k : Nat) (hk : k ≤ 8) : (rowO v s k).size = 8 := by
  have h : (addW v s).l.length = 8 := rfl
  unfold rowO
  simp only [List.size_toArray, List.length_map, List.length_append, List.length_take, List.length_replicate, h]
  omega

theorem xor3_int (a b c : UInt32) : bits .xor .u32 (bits .xor .u32 (a.toNat : Int) (b.toNat : Int)) (c.toNat : Int) = (((a ^^^ b) ^^^ c).toNat : Int) := by
  rw [xor_int, xor_int]
theorem t1R (V : W8) (r x : UInt32) : IntKind.u32.wrap (IntKind.u32.wrap (IntKind.u32.wrap (IntKind.u32.wrap ((V.h.toNat : Int) + bits .xor .u32 (bits .xor .u32 ((rotr V.e 6).toNat : Int) ((rotr V.e 11).toNat : Int)) ((rotr V.e 25).toNat : Int)) + bits .xor .u32 (bits .and .u32 (V.e.toNat : Int) (V.f.toNat : Int)) (bits .and .u32 (bits .xor .u32 4294967295 (V.e.toNat : Int)) (V.g.toNat : Int))) + (r.toNat : Int)) + (x.toNat : Int)) = ((t1F V (r + x)).toNat : Int) := by
  have hc := ch_int V.e V.f V.g
  rw [show IntKind.u32.max = 4294967295 from rfl] at hc
  rw [xor3_int, hc, wadd_int, wadd_int, wadd_int, wadd_int]
  unfold t1F rot3
  rw [← UInt32.add_assoc]
theorem t2R (V : W8) : IntKind.u32.wrap (bits .xor .u32 (bits .xor .u32 ((rotr V.a 2).toNat : Int) ((rotr V.a 13).toNat : Int)) ((rotr V.a 22).toNat : Int) + bits .xor .u32 (bits .xor .u32 (bits .and .u32 (V.a.toNat : Int) (V.b.toNat : Int)) (bits .and .u32 (V.a.toNat : Int) (V.c.toNat : Int))) (bits .and .u32 (V.b.toNat : Int) (V.c.toNat : Int))) = ((t2F V).toNat : Int) := by
  rw [xor3_int, maj_int, wadd_int]
  rfl

set_option maxHeartbeats 8000000 in
theorem block_any (w : World) (gh gb ob cb gk ck : Nat) (v : W8) (bs : List UInt8) (hbs : bs.length = 64) (hh : Blk w gh 40 (v.l.map WV).toArray)
    (hb : ∀ j x, bs[j]? = some x → w.cell? ⟨gb, ob + j, none⟩ = some (B8 x)) (hgb : gb < w.heap.size) (hcb : 64 ≤ cb) (hcb2 : cb ≤ 9223372036854775807)
    (hk : ∀ j x, rootsL[j]? = some x → w.cell? ⟨gk, j, none⟩ = some (WV x)) (hgk : gk < w.heap.size) (hck : 64 ≤ ck) (hck2 : ck ≤ 9223372036854775807) :
    Calls Tryd.prog 17 #[.slice (some ⟨gh, 0, none⟩) 8 8, .slice (some ⟨gb, ob, none⟩) 64 cb, .slice (some ⟨gk, 0, none⟩) 64 ck] w fun e w' => ∃ g, e = .returned (.slice (some ⟨g, 0, none⟩) 8 8) ∧ Blk w' g 40 ((mixF v bs).l.map WV).toArray ∧ Below w.heap.size w w' := by
  have Hbs := Lib.hid hbs
  have Hh := Lib.hid hh
  have Hb := Lib.hid hb
  have Hk := Lib.hid hk
  have hgh := hh.lt
  clear hbs hh hb hk
  have hmk : ∀ W : World, (Instr.makeSlice 41 (.int .i64 64) (.int .i64 64)).run Tryd.prog W = .ok (.slice (some ⟨W.heap.size, 0, none⟩) 64 64) (W.alloc (.cells (rowW bs 0) 40)) := fun W => by
    have h := run_makeW 64 (by omega) W
    have e : ((List.replicate 64 0).map WV).toArray = rowW bs 0 := by
      unfold rowW
      rw [List.map_replicate]
      rfl
    rw [e] at h
    exact h
  obtain ⟨Z, hZ⟩ : ∃ Z, Z = rowW bs 0 := ⟨_, rfl⟩
  rw [← hZ] at hmk
  have HZ := Lib.hid hZ
  clear hZ
  go_enter Tryd.func17, Tryd.ntmps17
  go_wp2_with fail
  clear hmk
  go_loopw [24] (fun i wr => ∃ k : Nat, k ≤ 64 ∧ i = .int .i64 (k : Int) ∧ Hid (Blk wr w.heap.size 40 (rowW bs k)) ∧ Hid (Below w.heap.size w wr)) (fun i _ => 64 - (intOf i).toNat)
  case atStart =>
    refine ⟨0, by omega, rfl, Lib.hid ?_, Lib.hid ((Below.refl _ _).alloc (Nat.le_refl _) _)⟩
    rw [← HZ.out]
    exact Blk.new _ _ _
  case round =>
    obtain ⟨k, hk, rfl, HR, HW⟩ := hrel
    have hkI : 0 ≤ (k : Int) := by omega
    by_cases hlt : k < 64
    · have hlt64 : (k : Int) < 64 := by omega
      have f3 := HR.out.frozen k
      have c3 : ∃ u, wr.cell? ⟨w.heap.size, k, none⟩ = some u := ⟨_, by rw [HR.out.cell]; exact Array.getElem?_eq_getElem (by rw [rowW_size _ _ hk]; exact hlt)⟩
      obtain ⟨u, c3⟩ := c3
      by_cases h16 : k < 16
      · have h16I : (k : Int) < 16 := by omega
        obtain ⟨x0, e0⟩ : ∃ x, bs[4 * k]? = some x := ⟨_, List.getElem?_eq_getElem (by rw [Hbs.out]; omega)⟩
        obtain ⟨x1, e1⟩ : ∃ x, bs[4 * k + 1]? = some x := ⟨_, List.getElem?_eq_getElem (by rw [Hbs.out]; omega)⟩
        obtain ⟨x2, e2⟩ : ∃ x, bs[4 * k + 2]? = some x := ⟨_, List.getElem?_eq_getElem (by rw [Hbs.out]; omega)⟩
        obtain ⟨x3, e3⟩ : ∃ x, bs[4 * k + 3]? = some x := ⟨_, List.getElem?_eq_getElem (by rw [Hbs.out]; omega)⟩
        have HWd : Hid (word4 bs k = UInt32.ofNat (((x0.toNat * 256 + x1.toNat) * 256 + x2.toNat) * 256 + x3.toNat)) := Lib.hid (by
          unfold word4
          simp only [List.getD_eq_getElem?_getD, e0, e1, e2, e3, Option.getD_some])
        have hcell : ∀ j x, bs[j]? = some x → wr.drew.cell? ⟨gb, ob + j, none⟩ = some (.int .u8 (x.toNat : Int)) := fun j x hj => by
          have h := (Only.of_below HW.out : Only Empty w wr).cell (p := ⟨gb, ob + j, none⟩) hgb (fun h => h)
          exact h.trans (Hb.out j x hj)
        have k0 := hcell _ _ e0
        have k1 := hcell _ _ e1
        have k2 := hcell _ _ e2
        have k3 := hcell _ _ e3
        obtain ⟨j0, hj0⟩ : ∃ j, j = 4 * k := ⟨_, rfl⟩
        obtain ⟨j1, hj1⟩ : ∃ j, j = 4 * k + 1 := ⟨_, rfl⟩
        obtain ⟨j2, hj2⟩ : ∃ j, j = 4 * k + 2 := ⟨_, rfl⟩
        obtain ⟨j3, hj3⟩ : ∃ j, j = 4 * k + 3 := ⟨_, rfl⟩
        rw [← hj0] at k0
        rw [← hj1] at k1
        rw [← hj2] at k2
        rw [← hj3] at k3
        have w0 : IntKind.i64.wrap (4 * (k : Int)) = (j0 : Int) := by rw [IntKind.wrap_i64]; omega
        have w1 : IntKind.i64.wrap ((j0 : Int) + 1) = (j1 : Int) := by rw [IntKind.wrap_i64]; omega
        have w2 : IntKind.i64.wrap ((j0 : Int) + 2) = (j2 : Int) := by rw [IntKind.wrap_i64]; omega
        have w3 : IntKind.i64.wrap ((j0 : Int) + 3) = (j3 : Int) := by rw [IntKind.wrap_i64]; omega
        have b0 : (j0 : Int) < 64 := by omega
        have b1 : (j1 : Int) < 64 := by omega
        have b2 : (j2 : Int) < 64 := by omega
        have b3 : (j3 : Int) < 64 := by omega
        have x0b := byte_lt x0
        have x1b := byte_lt x1
        have x2b := byte_lt x2
        have x3b := byte_lt x3
        clear hcell e0 e1 e2 e3 hj0 hj1 hj2 hj3
        go_wp2_with fail
        refine wp_region_held_drew (S := fun W => W.cell? ⟨gb, ob + j0, none⟩ = some (.int .u8 (x0.toNat : Int)) ∧ W.cell? ⟨gb, ob + j1, none⟩ = some (.int .u8 (x1.toNat : Int)) ∧ W.cell? ⟨gb, ob + j2, none⟩ = some (.int .u8 (x2.toNat : Int)) ∧ W.cell? ⟨gb, ob + j3, none⟩ = some (.int .u8 (x3.toNat : Int))) (by kernel_rfl) ⟨k0, k1, k2, k3⟩ (fun hHeld0 => ?_)
        refine take_yes 0 29 ?_ rfl rfl (by kernel_rfl) (by kernel_rfl) (by kernel_rfl) (fun _ _ _ h => h) (by kernel_rfl) ?_ (by assumption) ?_; rotate_left; (focus (intro w hSw; (try dsimp only at hSw); go_simp; all_goals first | with_reducible rfl)); simp only [Act.put, List.setIfInBounds_toArray, List.set_cons_zero, List.set_cons_succ]
        refine take_yes 1 30 ?_ rfl rfl (by kernel_rfl) (by kernel_rfl) (by kernel_rfl) (fun _ _ _ h => h) (by kernel_rfl) ?_ (by assumption) ?_; rotate_left; (focus (intro w hSw; (try dsimp only at hSw); go_simp; all_goals first | with_reducible rfl)); simp only [Act.put, List.setIfInBounds_toArray, List.set_cons_zero, List.set_cons_succ]
        refine take_yes 2 31 ?_ rfl rfl (by kernel_rfl) (by kernel_rfl) (by kernel_rfl) (fun _ _ _ h => h) (by kernel_rfl) ?_ (by assumption) ?_; rotate_left; (focus (intro w hSw; (try dsimp only at hSw); go_simp; all_goals first | with_reducible rfl)); simp only [Act.put, List.setIfInBounds_toArray, List.set_cons_zero, List.set_cons_succ]
        refine take_yes 3 32 ?_ rfl rfl (by kernel_rfl) (by kernel_rfl) (by kernel_rfl) (fun _ _ _ h => h) (by kernel_rfl) ?_ (by assumption) ?_; rotate_left; (focus (intro w hSw; (try dsimp only at hSw); go_simp; all_goals first | with_reducible rfl)); simp only [Act.put, List.setIfInBounds_toArray, List.set_cons_zero, List.set_cons_succ]
        refine take_yes 4 33 (.int .i64 (j0 : Int)) rfl rfl (by kernel_rfl) (by kernel_rfl) (by kernel_rfl) (fun _ _ _ h => h) (by kernel_rfl) ?_ (by assumption) ?_; (focus (intro w hSw; (try dsimp only at hSw); go_simp; all_goals first | with_reducible rfl | simp [w0])); simp only [Act.put, List.setIfInBounds_toArray, List.set_cons_zero, List.set_cons_succ]
        refine take_yes 5 34 ?_ rfl rfl (by kernel_rfl) (by kernel_rfl) (by kernel_rfl) (fun _ _ _ h => h) (by kernel_rfl) ?_ (by assumption) ?_; rotate_left; (focus (intro w hSw; (try dsimp only at hSw); go_simp; all_goals first | with_reducible rfl)); simp only [Act.put, List.setIfInBounds_toArray, List.set_cons_zero, List.set_cons_succ]
        refine take_yes 6 35 ?_ rfl rfl (by kernel_rfl) (by kernel_rfl) (by kernel_rfl) (fun _ _ _ h => h) (by kernel_rfl) ?_ (by assumption) ?_; rotate_left; (focus (intro w hSw; (try dsimp only at hSw); go_simp; all_goals first | with_reducible rfl)); simp only [Act.put, List.setIfInBounds_toArray, List.set_cons_zero, List.set_cons_succ]
        refine take_yes 7 36 ?_ rfl rfl (by kernel_rfl) (by kernel_rfl) (by kernel_rfl) (fun _ _ _ h => h) (by kernel_rfl) ?_ (by assumption) ?_; rotate_left; (focus (intro w hSw; (try dsimp only at hSw); go_simp; all_goals first | with_reducible rfl)); simp only [Act.put, List.setIfInBounds_toArray, List.set_cons_zero, List.set_cons_succ]
        refine take_yes 8 37 ?_ rfl rfl (by kernel_rfl) (by kernel_rfl) (by kernel_rfl) (fun _ _ _ h => h) (by kernel_rfl) ?_ (by assumption) ?_; rotate_left; (focus (intro w hSw; (try dsimp only at hSw); go_simp; all_goals first | with_reducible rfl)); simp only [Act.put, List.setIfInBounds_toArray, List.set_cons_zero, List.set_cons_succ]
        refine take_yes 9 38 ?_ rfl rfl (by kernel_rfl) (by kernel_rfl) (by kernel_rfl) (fun _ _ _ h => h) (by kernel_rfl) ?_ (by assumption) ?_; rotate_left; (focus (intro w hSw; (try dsimp only at hSw); go_simp; all_goals first | with_reducible rfl)); simp only [Act.put, List.setIfInBounds_toArray, List.set_cons_zero, List.set_cons_succ]
        refine take_yes 10 39 ?_ rfl rfl (by kernel_rfl) (by kernel_rfl) (by kernel_rfl) (fun _ _ _ h => h) (by kernel_rfl) ?_ (by assumption) ?_; rotate_left; (focus (intro w hSw; (try dsimp only at hSw); go_simp; all_goals first | with_reducible rfl)); simp only [Act.put, List.setIfInBounds_toArray, List.set_cons_zero, List.set_cons_succ]
        refine take_yes 11 40 (.int .i64 (j0 : Int)) rfl rfl (by kernel_rfl) (by kernel_rfl) (by kernel_rfl) (fun _ _ _ h => h) (by kernel_rfl) ?_ (by assumption) ?_; (focus (intro w hSw; (try dsimp only at hSw); go_simp; all_goals first | with_reducible rfl | simp [w0])); simp only [Act.put, List.setIfInBounds_toArray, List.set_cons_zero, List.set_cons_succ]
        refine take_yes 12 41 (.int .i64 (j1 : Int)) rfl rfl (by kernel_rfl) (by kernel_rfl) (by kernel_rfl) (fun _ _ _ h => h) (by kernel_rfl) ?_ (by assumption) ?_; (focus (intro w hSw; (try dsimp only at hSw); go_simp; all_goals first | with_reducible rfl | simp [w1])); simp only [Act.put, List.setIfInBounds_toArray, List.set_cons_zero, List.set_cons_succ]
        refine take_yes 13 42 ?_ rfl rfl (by kernel_rfl) (by kernel_rfl) (by kernel_rfl) (fun _ _ _ h => h) (by kernel_rfl) ?_ (by assumption) ?_; rotate_left; (focus (intro w hSw; (try dsimp only at hSw); go_simp; all_goals first | with_reducible rfl)); simp only [Act.put, List.setIfInBounds_toArray, List.set_cons_zero, List.set_cons_succ]
        refine take_yes 14 43 ?_ rfl rfl (by kernel_rfl) (by kernel_rfl) (by kernel_rfl) (fun _ _ _ h => h) (by kernel_rfl) ?_ (by assumption) ?_; rotate_left; (focus (intro w hSw; (try dsimp only at hSw); go_simp; all_goals first | with_reducible rfl)); simp only [Act.put, List.setIfInBounds_toArray, List.set_cons_zero, List.set_cons_succ]
        refine take_yes 15 44 ?_ rfl rfl (by kernel_rfl) (by kernel_rfl) (by kernel_rfl) (fun _ _ _ h => h) (by kernel_rfl) ?_ (by assumption) ?_; rotate_left; (focus (intro w hSw; (try dsimp only at hSw); go_simp; all_goals first | with_reducible rfl)); simp only [Act.put, List.setIfInBounds_toArray, List.set_cons_zero, List.set_cons_succ]
        refine take_yes 16 45 ?_ rfl rfl (by kernel_rfl) (by kernel_rfl) (by kernel_rfl) (fun _ _ _ h => h) (by kernel_rfl) ?_ (by assumption) ?_; rotate_left; (focus (intro w hSw; (try dsimp only at hSw); go_simp; all_goals first | with_reducible rfl)); simp only [Act.put, List.setIfInBounds_toArray, List.set_cons_zero, List.set_cons_succ]
        refine take_yes 17 46 ?_ rfl rfl (by kernel_rfl) (by kernel_rfl) (by kernel_rfl) (fun _ _ _ h => h) (by kernel_rfl) ?_ (by assumption) ?_; rotate_left; (focus (intro w hSw; (try dsimp only at hSw); go_simp; all_goals first | with_reducible rfl)); simp only [Act.put, List.setIfInBounds_toArray, List.set_cons_zero, List.set_cons_succ]
        refine take_yes 18 47 ?_ rfl rfl (by kernel_rfl) (by kernel_rfl) (by kernel_rfl) (fun _ _ _ h => h) (by kernel_rfl) ?_ (by assumption) ?_; rotate_left; (focus (intro w hSw; (try dsimp only at hSw); go_simp; all_goals first | with_reducible rfl)); simp only [Act.put, List.setIfInBounds_toArray, List.set_cons_zero, List.set_cons_succ]
        refine take_yes 19 48 ?_ rfl rfl (by kernel_rfl) (by kernel_rfl) (by kernel_rfl) (fun _ _ _ h => h) (by kernel_rfl) ?_ (by assumption) ?_; rotate_left; (focus (intro w hSw; (try dsimp only at hSw); go_simp; all_goals first | with_reducible rfl)); simp only [Act.put, List.setIfInBounds_toArray, List.set_cons_zero, List.set_cons_succ]
        refine take_yes 20 49 (.int .i64 (j0 : Int)) rfl rfl (by kernel_rfl) (by kernel_rfl) (by kernel_rfl) (fun _ _ _ h => h) (by kernel_rfl) ?_ (by assumption) ?_; (focus (intro w hSw; (try dsimp only at hSw); go_simp; all_goals first | with_reducible rfl | simp [w0])); simp only [Act.put, List.setIfInBounds_toArray, List.set_cons_zero, List.set_cons_succ]
        refine take_yes 21 50 (.int .i64 (j2 : Int)) rfl rfl (by kernel_rfl) (by kernel_rfl) (by kernel_rfl) (fun _ _ _ h => h) (by kernel_rfl) ?_ (by assumption) ?_; (focus (intro w hSw; (try dsimp only at hSw); go_simp; all_goals first | with_reducible rfl | simp [w2])); simp only [Act.put, List.setIfInBounds_toArray, List.set_cons_zero, List.set_cons_succ]
        refine take_yes 22 51 ?_ rfl rfl (by kernel_rfl) (by kernel_rfl) (by kernel_rfl) (fun _ _ _ h => h) (by kernel_rfl) ?_ (by assumption) ?_; rotate_left; (focus (intro w hSw; (try dsimp only at hSw); go_simp; all_goals first | with_reducible rfl)); simp only [Act.put, List.setIfInBounds_toArray, List.set_cons_zero, List.set_cons_succ]
        refine take_yes 23 52 ?_ rfl rfl (by kernel_rfl) (by kernel_rfl) (by kernel_rfl) (fun _ _ _ h => h) (by kernel_rfl) ?_ (by assumption) ?_; rotate_left; (focus (intro w hSw; (try dsimp only at hSw); go_simp; all_goals first | with_reducible rfl)); simp only [Act.put, List.setIfInBounds_toArray, List.set_cons_zero, List.set_cons_succ]
        refine take_yes 24 53 ?_ rfl rfl (by kernel_rfl) (by kernel_rfl) (by kernel_rfl) (fun _ _ _ h => h) (by kernel_rfl) ?_ (by assumption) ?_; rotate_left; (focus (intro w hSw; (try dsimp only at hSw); go_simp; all_goals first | with_reducible rfl)); simp only [Act.put, List.setIfInBounds_toArray, List.set_cons_zero, List.set_cons_succ]
        refine take_yes 25 54 ?_ rfl rfl (by kernel_rfl) (by kernel_rfl) (by kernel_rfl) (fun _ _ _ h => h) (by kernel_rfl) ?_ (by assumption) ?_; rotate_left; (focus (intro w hSw; (try dsimp only at hSw); go_simp; all_goals first | with_reducible rfl)); simp only [Act.put, List.setIfInBounds_toArray, List.set_cons_zero, List.set_cons_succ]
        refine take_yes 26 55 ?_ rfl rfl (by kernel_rfl) (by kernel_rfl) (by kernel_rfl) (fun _ _ _ h => h) (by kernel_rfl) ?_ (by assumption) ?_; rotate_left; (focus (intro w hSw; (try dsimp only at hSw); go_simp; all_goals first | with_reducible rfl)); simp only [Act.put, List.setIfInBounds_toArray, List.set_cons_zero, List.set_cons_succ]
        refine take_yes 27 56 ?_ rfl rfl (by kernel_rfl) (by kernel_rfl) (by kernel_rfl) (fun _ _ _ h => h) (by kernel_rfl) ?_ (by assumption) ?_; rotate_left; (focus (intro w hSw; (try dsimp only at hSw); go_simp; all_goals first | with_reducible rfl)); simp only [Act.put, List.setIfInBounds_toArray, List.set_cons_zero, List.set_cons_succ]
        refine take_yes 28 57 ?_ rfl rfl (by kernel_rfl) (by kernel_rfl) (by kernel_rfl) (fun _ _ _ h => h) (by kernel_rfl) ?_ (by assumption) ?_; rotate_left; (focus (intro w hSw; (try dsimp only at hSw); go_simp; all_goals first | with_reducible rfl)); simp only [Act.put, List.setIfInBounds_toArray, List.set_cons_zero, List.set_cons_succ]
        refine take_yes 29 58 (.int .i64 (j0 : Int)) rfl rfl (by kernel_rfl) (by kernel_rfl) (by kernel_rfl) (fun _ _ _ h => h) (by kernel_rfl) ?_ (by assumption) ?_; (focus (intro w hSw; (try dsimp only at hSw); go_simp; all_goals first | with_reducible rfl | simp [w0])); simp only [Act.put, List.setIfInBounds_toArray, List.set_cons_zero, List.set_cons_succ]
        refine take_yes 30 59 (.int .i64 (j3 : Int)) rfl rfl (by kernel_rfl) (by kernel_rfl) (by kernel_rfl) (fun _ _ _ h => h) (by kernel_rfl) ?_ (by assumption) ?_; (focus (intro w hSw; (try dsimp only at hSw); go_simp; all_goals first | with_reducible rfl | simp [w3])); simp only [Act.put, List.setIfInBounds_toArray, List.set_cons_zero, List.set_cons_succ]
        refine take_yes 31 60 ?_ rfl rfl (by kernel_rfl) (by kernel_rfl) (by kernel_rfl) (fun _ _ _ h => h) (by kernel_rfl) ?_ (by assumption) ?_; rotate_left; (focus (intro w hSw; (try dsimp only at hSw); go_simp; all_goals first | with_reducible rfl)); simp only [Act.put, List.setIfInBounds_toArray, List.set_cons_zero, List.set_cons_succ]
        refine take_yes 32 61 ?_ rfl rfl (by kernel_rfl) (by kernel_rfl) (by kernel_rfl) (fun _ _ _ h => h) (by kernel_rfl) ?_ (by assumption) ?_; rotate_left; (focus (intro w hSw; (try dsimp only at hSw); go_simp; all_goals first | with_reducible rfl)); simp only [Act.put, List.setIfInBounds_toArray, List.set_cons_zero, List.set_cons_succ]
        refine take_yes 33 62 ?_ rfl rfl (by kernel_rfl) (by kernel_rfl) (by kernel_rfl) (fun _ _ _ h => h) (by kernel_rfl) ?_ (by assumption) ?_; rotate_left; (focus (intro w hSw; (try dsimp only at hSw); go_simp; all_goals first | with_reducible rfl)); simp only [Act.put, List.setIfInBounds_toArray, List.set_cons_zero, List.set_cons_succ]
        refine take_yes 34 63 ?_ rfl rfl (by kernel_rfl) (by kernel_rfl) (by kernel_rfl) (fun _ _ _ h => h) (by kernel_rfl) ?_ (by assumption) ?_; rotate_left; (focus (intro w hSw; (try dsimp only at hSw); go_simp; all_goals first | with_reducible rfl)); simp only [Act.put, List.setIfInBounds_toArray, List.set_cons_zero, List.set_cons_succ]
        refine take_yes 35 64 ?_ rfl rfl (by kernel_rfl) (by kernel_rfl) (by kernel_rfl) (fun _ _ _ h => h) (by kernel_rfl) ?_ (by assumption) ?_; rotate_left; (focus (intro w hSw; (try dsimp only at hSw); go_simp; all_goals first | with_reducible rfl)); simp only [Act.put, List.setIfInBounds_toArray, List.set_cons_zero, List.set_cons_succ]
        refine wpAnyH_ready (rs := [36]) (by kernel_rfl) (by simp) ?_
        refine AllReadyH.cons rfl (fun K hK => ?_) AllReadyH.nil
        go_simp
        rw [word_int, ← HWd.out]
        have HNx : Hid (nextW bs (spreadN bs k) = word4 bs k) := Lib.hid (nextW_lo bs k h16)
        rw [← HNx.out]
        obtain ⟨w5, hw5⟩ : ∃ W, (wr.setCell ⟨w.heap.size, k, none⟩ (WV (nextW bs (spreadN bs k)))).drew = W := ⟨_, rfl⟩
        change K _ ((wr.setCell ⟨w.heap.size, k, none⟩ (WV (nextW bs (spreadN bs k)))).drew)
        have hne : gb ≠ w.heap.size := by omega
        have far : ∀ j x, wr.drew.cell? ⟨gb, j, none⟩ = some x → w5.cell? ⟨gb, j, none⟩ = some x := fun j x h => by
          rw [← hw5]
          show (wr.setCell _ _).cell? _ = _
          rw [World.cell?_setCell_other _ _ _ _ (by simp <;> omega)]
          exact h
        have HR5 : Hid (Blk w5 w.heap.size 40 (rowW bs (k + 1))) := Lib.hid (by
          rw [← hw5]
          have h := (HR.out.set_ k (WV (nextW bs (spreadN bs k)))).drew
          rw [rowW_set _ _ hlt] at h
          exact h)
        have HW5 : Hid (Below w.heap.size w w5) := Lib.hid (by rw [← hw5]; exact (HW.out.setCell (by simp) _).drew)
        have hf := And.intro (far _ _ k0) (And.intro (far _ _ k1) (And.intro (far _ _ k2) (far _ _ k3)))
        rw [hw5]
        clear far
        refine hK.out _ _ (hf) (fun _ => ?_)
        clear hK K
        try simp only [Act.put, List.setIfInBounds_toArray, List.set_cons_zero, List.set_cons_succ]
        refine wpAnyH_done (by kernel_rfl) ?_ _
        clear hw5 hf
        go_wp2
        go_roundw
        case rel => exact ⟨k + 1, by omega, by go_num, HR5, HW5⟩
        case measure => simp [intOf]; omega
      · obtain ⟨X, hX⟩ : ∃ X, X = (spreadN bs k).getD (k - 15) 0 := ⟨_, rfl⟩
        obtain ⟨Y, hY⟩ : ∃ Y, Y = (spreadN bs k).getD (k - 2) 0 := ⟨_, rfl⟩
        obtain ⟨P, hP⟩ : ∃ P, P = (spreadN bs k).getD (k - 7) 0 := ⟨_, rfl⟩
        obtain ⟨Q, hQ⟩ : ∃ Q, Q = (spreadN bs k).getD (k - 16) 0 := ⟨_, rfl⟩
        have cX : wr.cell? ⟨w.heap.size, k - 15, none⟩ = some (.int .u32 (X.toNat : Int)) := by rw [HR.out.cell, rowW_get _ _ _ (by omega), ← hX]; rfl
        have cY : wr.cell? ⟨w.heap.size, k - 2, none⟩ = some (.int .u32 (Y.toNat : Int)) := by rw [HR.out.cell, rowW_get _ _ _ (by omega), ← hY]; rfl
        have cP : wr.cell? ⟨w.heap.size, k - 7, none⟩ = some (.int .u32 (P.toNat : Int)) := by rw [HR.out.cell, rowW_get _ _ _ (by omega), ← hP]; rfl
        have cQ : wr.cell? ⟨w.heap.size, k - 16, none⟩ = some (.int .u32 (Q.toNat : Int)) := by rw [HR.out.cell, rowW_get _ _ _ (by omega), ← hQ]; rfl
        have HN : Hid (nextW bs (spreadN bs k) = ((sig1 Y + P) + sig0 X) + Q) := Lib.hid (by rw [nextW_hi _ _ h16, hX, hY, hP, hQ])
        have e15 : ((k : Int) - 15).toNat = k - 15 := by omega
        have e2 : ((k : Int) - 2).toNat = k - 2 := by omega
        obtain ⟨k7, hk7⟩ : ∃ k7, k7 = k - 7 := ⟨_, rfl⟩
        obtain ⟨k16, hk16⟩ : ∃ k16, k16 = k - 16 := ⟨_, rfl⟩
        have b7 : (k7 : Int) < 64 := by omega
        have b16 : (k16 : Int) < 64 := by omega
        have hw7 : IntKind.i64.wrap ((k : Int) - 7) = (k7 : Int) := by rw [IntKind.wrap_i64]; omega
        have hw16 : IntKind.i64.wrap ((k : Int) - 16) = (k16 : Int) := by rw [IntKind.wrap_i64]; omega
        have n7 : ¬ (k7 = k) := by omega
        have n16 : ¬ (k16 = k) := by omega
        rw [← hk7] at cP
        rw [← hk16] at cQ
        clear hX hY hP hQ hk7 hk16
        go_wp2
        go_quiet (fail)
        rename Nat => q1
        go_wp2_with fail
        refine (r21turn_any X 7 (by omega) (by omega) _).mono ?_
        rintro e w1 ⟨rfl, rfl⟩
        unfold WV
        go_wp2_with fail
        refine (r21turn_any X 18 (by omega) (by omega) _).mono ?_
        rintro e w1 ⟨rfl, rfl⟩
        unfold WV
        go_wp2_with fail
        refine (r21turn_any Y 17 (by omega) (by omega) _).mono ?_
        rintro e w1 ⟨rfl, rfl⟩
        unfold WV
        go_wp2_with fail
        refine (r21turn_any Y 19 (by omega) (by omega) _).mono ?_
        rintro e w1 ⟨rfl, rfl⟩
        unfold WV
        go_wp2
        rw [sig0_int, sig1_int]
        have kP : (wr.drewN q1).drew.cell? ⟨w.heap.size, k7, none⟩ = some (.int .u32 (P.toNat : Int)) := cP
        have kQ : (wr.drewN q1).drew.cell? ⟨w.heap.size, k16, none⟩ = some (.int .u32 (Q.toNat : Int)) := cQ
        have kU : (wr.drewN q1).drew.cell? ⟨w.heap.size, k, none⟩ = some u := c3
        have kF : (wr.drewN q1).drew.frozen? ⟨w.heap.size, k, none⟩ = false := f3
        clear e15 e2
        go_wp2_with fail
        refine wp_region_held_drew (S := fun W => W.cell? ⟨w.heap.size, k7, none⟩ = some (.int .u32 (P.toNat : Int)) ∧ W.cell? ⟨w.heap.size, k16, none⟩ = some (.int .u32 (Q.toNat : Int))) (by kernel_rfl) ⟨kP, kQ⟩ (fun hHeld0 => ?_)
        refine take_yes 0 91 ?_ rfl rfl (by kernel_rfl) (by kernel_rfl) (by kernel_rfl) (fun _ _ _ h => h) (by kernel_rfl) ?_ (by assumption) ?_; rotate_left; (focus (intro w hSw; (try dsimp only at hSw); go_simp; all_goals first | with_reducible rfl)); simp only [Act.put, List.setIfInBounds_toArray, List.set_cons_zero, List.set_cons_succ]
        refine take_yes 1 92 ?_ rfl rfl (by kernel_rfl) (by kernel_rfl) (by kernel_rfl) (fun _ _ _ h => h) (by kernel_rfl) ?_ (by assumption) ?_; rotate_left; (focus (intro w hSw; (try dsimp only at hSw); go_simp; all_goals first | with_reducible rfl)); simp only [Act.put, List.setIfInBounds_toArray, List.set_cons_zero, List.set_cons_succ]
        refine take_yes 2 93 ?_ rfl rfl (by kernel_rfl) (by kernel_rfl) (by kernel_rfl) (fun _ _ _ h => h) (by kernel_rfl) ?_ (by assumption) ?_; rotate_left; (focus (intro w hSw; (try dsimp only at hSw); go_simp; all_goals first | with_reducible rfl)); simp only [Act.put, List.setIfInBounds_toArray, List.set_cons_zero, List.set_cons_succ]
        refine take_yes 3 94 ?_ rfl rfl (by kernel_rfl) (by kernel_rfl) (by kernel_rfl) (fun _ _ _ h => h) (by kernel_rfl) ?_ (by assumption) ?_; rotate_left; (focus (intro w hSw; (try dsimp only at hSw); go_simp; all_goals first | with_reducible rfl)); simp only [Act.put, List.setIfInBounds_toArray, List.set_cons_zero, List.set_cons_succ]
        refine take_yes 4 95 ?_ rfl rfl (by kernel_rfl) (by kernel_rfl) (by kernel_rfl) (fun _ _ _ h => h) (by kernel_rfl) ?_ (by assumption) ?_; rotate_left; (focus (intro w hSw; (try dsimp only at hSw); go_simp; all_goals first | with_reducible rfl)); simp only [Act.put, List.setIfInBounds_toArray, List.set_cons_zero, List.set_cons_succ]
        refine take_yes 5 96 (.int .i64 (k7 : Int)) rfl rfl (by kernel_rfl) (by kernel_rfl) (by kernel_rfl) (fun _ _ _ h => h) (by kernel_rfl) ?_ (by assumption) ?_; (focus (intro w hSw; (try dsimp only at hSw); go_simp; all_goals first | with_reducible rfl | simp [hw7])); simp only [Act.put, List.setIfInBounds_toArray, List.set_cons_zero, List.set_cons_succ]
        refine take_yes 6 97 ?_ rfl rfl (by kernel_rfl) (by kernel_rfl) (by kernel_rfl) (fun _ _ _ h => h) (by kernel_rfl) ?_ (by assumption) ?_; rotate_left; (focus (intro w hSw; (try dsimp only at hSw); go_simp; all_goals first | with_reducible rfl)); simp only [Act.put, List.setIfInBounds_toArray, List.set_cons_zero, List.set_cons_succ]
        refine take_yes 7 98 ?_ rfl rfl (by kernel_rfl) (by kernel_rfl) (by kernel_rfl) (fun _ _ _ h => h) (by kernel_rfl) ?_ (by assumption) ?_; rotate_left; (focus (intro w hSw; (try dsimp only at hSw); go_simp; all_goals first | with_reducible rfl)); simp only [Act.put, List.setIfInBounds_toArray, List.set_cons_zero, List.set_cons_succ]
        refine take_yes 8 99 ?_ rfl rfl (by kernel_rfl) (by kernel_rfl) (by kernel_rfl) (fun _ _ _ h => h) (by kernel_rfl) ?_ (by assumption) ?_; rotate_left; (focus (intro w hSw; (try dsimp only at hSw); go_simp; all_goals first | with_reducible rfl)); simp only [Act.put, List.setIfInBounds_toArray, List.set_cons_zero, List.set_cons_succ]
        refine take_yes 9 100 ?_ rfl rfl (by kernel_rfl) (by kernel_rfl) (by kernel_rfl) (fun _ _ _ h => h) (by kernel_rfl) ?_ (by assumption) ?_; rotate_left; (focus (intro w hSw; (try dsimp only at hSw); go_simp; all_goals first | with_reducible rfl)); simp only [Act.put, List.setIfInBounds_toArray, List.set_cons_zero, List.set_cons_succ]
        refine take_yes 10 101 ?_ rfl rfl (by kernel_rfl) (by kernel_rfl) (by kernel_rfl) (fun _ _ _ h => h) (by kernel_rfl) ?_ (by assumption) ?_; rotate_left; (focus (intro w hSw; (try dsimp only at hSw); go_simp; all_goals first | with_reducible rfl)); simp only [Act.put, List.setIfInBounds_toArray, List.set_cons_zero, List.set_cons_succ]
        refine take_yes 11 102 ?_ rfl rfl (by kernel_rfl) (by kernel_rfl) (by kernel_rfl) (fun _ _ _ h => h) (by kernel_rfl) ?_ (by assumption) ?_; rotate_left; (focus (intro w hSw; (try dsimp only at hSw); go_simp; all_goals first | with_reducible rfl)); simp only [Act.put, List.setIfInBounds_toArray, List.set_cons_zero, List.set_cons_succ]
        refine take_yes 12 103 ?_ rfl rfl (by kernel_rfl) (by kernel_rfl) (by kernel_rfl) (fun _ _ _ h => h) (by kernel_rfl) ?_ (by assumption) ?_; rotate_left; (focus (intro w hSw; (try dsimp only at hSw); go_simp; all_goals first | with_reducible rfl)); simp only [Act.put, List.setIfInBounds_toArray, List.set_cons_zero, List.set_cons_succ]
        refine take_yes 13 104 (.int .i64 (k16 : Int)) rfl rfl (by kernel_rfl) (by kernel_rfl) (by kernel_rfl) (fun _ _ _ h => h) (by kernel_rfl) ?_ (by assumption) ?_; (focus (intro w hSw; (try dsimp only at hSw); go_simp; all_goals first | with_reducible rfl | simp [hw16])); simp only [Act.put, List.setIfInBounds_toArray, List.set_cons_zero, List.set_cons_succ]
        refine take_yes 14 105 ?_ rfl rfl (by kernel_rfl) (by kernel_rfl) (by kernel_rfl) (fun _ _ _ h => h) (by kernel_rfl) ?_ (by assumption) ?_; rotate_left; (focus (intro w hSw; (try dsimp only at hSw); go_simp; all_goals first | with_reducible rfl)); simp only [Act.put, List.setIfInBounds_toArray, List.set_cons_zero, List.set_cons_succ]
        refine take_yes 15 106 ?_ rfl rfl (by kernel_rfl) (by kernel_rfl) (by kernel_rfl) (fun _ _ _ h => h) (by kernel_rfl) ?_ (by assumption) ?_; rotate_left; (focus (intro w hSw; (try dsimp only at hSw); go_simp; all_goals first | with_reducible rfl)); simp only [Act.put, List.setIfInBounds_toArray, List.set_cons_zero, List.set_cons_succ]
        refine take_yes 16 107 ?_ rfl rfl (by kernel_rfl) (by kernel_rfl) (by kernel_rfl) (fun _ _ _ h => h) (by kernel_rfl) ?_ (by assumption) ?_; rotate_left; (focus (intro w hSw; (try dsimp only at hSw); go_simp; all_goals first | with_reducible rfl)); simp only [Act.put, List.setIfInBounds_toArray, List.set_cons_zero, List.set_cons_succ]
        refine take_yes 17 108 ?_ rfl rfl (by kernel_rfl) (by kernel_rfl) (by kernel_rfl) (fun _ _ _ h => h) (by kernel_rfl) ?_ (by assumption) ?_; rotate_left; (focus (intro w hSw; (try dsimp only at hSw); go_simp; all_goals first | with_reducible rfl)); simp only [Act.put, List.setIfInBounds_toArray, List.set_cons_zero, List.set_cons_succ]
        refine wpAnyH_ready (rs := [18]) (by kernel_rfl) (by simp) ?_
        refine AllReadyH.cons rfl (fun K hK => ?_) AllReadyH.nil
        go_simp
        rw [wadd_int, wadd_int, wadd_int]
        obtain ⟨w5, hw5⟩ : ∃ W, (wr.drewN (q1 + 1)).setCell ⟨w.heap.size, k, none⟩ (WV (((sig1 Y + P) + sig0 X) + Q)) = W := ⟨_, rfl⟩
        change K _ ((wr.drewN (q1 + 1)).setCell ⟨w.heap.size, k, none⟩ (WV (((sig1 Y + P) + sig0 X) + Q)))
        have hf : w5.cell? ⟨w.heap.size, k7, none⟩ = some (.int .u32 (P.toNat : Int)) ∧ w5.cell? ⟨w.heap.size, k16, none⟩ = some (.int .u32 (Q.toNat : Int)) := by
          rw [← hw5]
          exact ⟨by rw [World.cell?_setCell_other _ _ _ _ (by simp [n7])]; exact kP, by rw [World.cell?_setCell_other _ _ _ _ (by simp [n16])]; exact kQ⟩
        have HR5 : Hid (Blk w5 w.heap.size 40 (rowW bs (k + 1))) := Lib.hid (by
          rw [← hw5]
          have h := (HR.out.drewN (q1 + 1)).set_ k (WV (nextW bs (spreadN bs k)))
          rw [rowW_set _ _ hlt, HN.out] at h
          exact h)
        have HW5 : Hid (Below w.heap.size w w5) := Lib.hid (by rw [← hw5]; exact (HW.out.drewN _).setCell (by simp) _)
        rw [hw5]
        refine hK.out _ _ (hf) (fun _ => ?_)
        clear hK K
        try simp only [Act.put, List.setIfInBounds_toArray, List.set_cons_zero, List.set_cons_succ]
        refine wpAnyH_done (by kernel_rfl) ?_ _
        clear hw5 hf
        go_wp2
        go_roundw
        case rel => exact ⟨k + 1, by omega, by go_num, HR5, HW5⟩
        case measure => simp [intOf]; omega
    · have hk64 : k = 64 := by omega
      have HRw : Hid (Blk wr w.heap.size 40 ((spreadF bs).map WV).toArray) := Lib.hid (by rw [← rowW_all, ← hk64]; exact HR.out)
      have Hhr : Hid (Blk wr gh 40 (v.l.map WV).toArray) := Lib.hid (Hh.out.of (HW.out.block _ hgh))
      have hkge : ¬ (k : Int) < 64 := by omega
      obtain ⟨A9, c9, w9, hrun9, hG9, hW9, -⟩ := appW (base := wr.heap.size) (base0 := wr.heap.size) (w0 := wr) (m0 := 0) (c0 := 0) (zs := []) (B := some ⟨wr.heap.size, 0, none⟩) (m := 8) (l := v.l) (ga := gh) (w := wr.alloc (.cells #[] 40)) (got_row (f := WV) (l := []) (Blk.new wr 40 #[]) (Nat.le_refl _) rfl (by decide)) (Hhr.out.alloc _) rfl (by omega) (by simp) (Nat.le_refl _) ((Below.refl wr.heap.size wr).alloc (Nat.le_refl _) _)
      obtain ⟨gv, rfl, hgv⟩ := got_some (f := WV) hG9 (by omega)
      have hsW := HW.out.size
      clear hk64
      go_wp2_with (at_builtin; refine wpList_append_eqU rfl (.tmp 110) (.tmp 111) rfl rfl rfl rfl hrun9 ?_)
      have HV9 : Hid ((∀ j x, v.l[j]? = some x → w9.cell? ⟨gv, j, none⟩ = some (WV x)) ∧ gv < w9.heap.size ∧ 8 ≤ c9 ∧ c9 ≤ 9223372036854775807) := Lib.hid ⟨fun j x hj => (got_cell (f := WV) hG9 hj).1, (got_cell (f := WV) hG9 (show v.l[0]? = some v.a from rfl)).2.2, hG9.row.2.1, by have := hG9.row.2.2.1; unfold maxLen at this; exact this⟩
      have HR9 : Hid (Blk w9 w.heap.size 40 ((spreadF bs).map WV).toArray) := Lib.hid (HRw.out.of (hW9.block _ HRw.out.lt))
      have HW9 := Lib.hid (HW.out.trans (hW9.mono HW.out.size))
      clear hG9 hW9 HRw Hhr
      go_wp2_with fail
      go_loopw [13, 115] (fun vv i wr => ∃ (t gv cv : Nat), t ≤ 64 ∧ vv = .slice (some ⟨gv, 0, none⟩) 8 cv ∧ i = .int .i64 (t : Int) ∧ Hid ((∀ j x, (roundsN v bs t).l[j]? = some x → wr.cell? ⟨gv, j, none⟩ = some (WV x)) ∧ gv < wr.heap.size ∧ 8 ≤ cv ∧ cv ≤ 9223372036854775807) ∧ Hid (Below w9.heap.size w9 wr)) (fun _ i _ => 64 - (intOf i).toNat)
      case atStart => exact ⟨0, gv, c9, by omega, rfl, rfl, HV9, Lib.hid (Below.refl _ _)⟩
      case round =>
        obtain ⟨t, g2, cv, ht, rfl, rfl, HV, HX⟩ := hrel
        by_cases ht64 : t < 64
        · obtain ⟨V, hV⟩ : ∃ V, V = roundsN v bs t := ⟨_, rfl⟩
          obtain ⟨x, hx⟩ : ∃ x, x = (spreadF bs).getD t 0 := ⟨_, rfl⟩
          obtain ⟨r, hr⟩ : ∃ r, r = rootsL.getD t 0 := ⟨_, rfl⟩
          have HN : Hid (roundsN v bs (t + 1) = roundF V (r + x)) := Lib.hid (by rw [hV, hx, hr]; rfl)
          have hc := HV.out.1
          rw [← hV] at hc
          have cv2 := HV.out.2.2.1
          have cv3 := HV.out.2.2.2
          have v0 : wr.cell? ⟨g2, 0, none⟩ = some (.int .u32 (V.a.toNat : Int)) := hc 0 _ rfl
          have v1 : wr.cell? ⟨g2, 1, none⟩ = some (.int .u32 (V.b.toNat : Int)) := hc 1 _ rfl
          have v2 : wr.cell? ⟨g2, 2, none⟩ = some (.int .u32 (V.c.toNat : Int)) := hc 2 _ rfl
          have v3 : wr.cell? ⟨g2, 3, none⟩ = some (.int .u32 (V.d.toNat : Int)) := hc 3 _ rfl
          have v4 : wr.cell? ⟨g2, 4, none⟩ = some (.int .u32 (V.e.toNat : Int)) := hc 4 _ rfl
          have v5 : wr.cell? ⟨g2, 5, none⟩ = some (.int .u32 (V.f.toNat : Int)) := hc 5 _ rfl
          have v6 : wr.cell? ⟨g2, 6, none⟩ = some (.int .u32 (V.g.toNat : Int)) := hc 6 _ rfl
          have v7 : wr.cell? ⟨g2, 7, none⟩ = some (.int .u32 (V.h.toNat : Int)) := hc 7 _ rfl
          have cx : wr.cell? ⟨w.heap.size, t, none⟩ = some (.int .u32 (x.toNat : Int)) := by
            rw [((HR9.out).of (HX.out.block _ HR9.out.lt)).cell, row_get, hx, List.getD_eq_getElem?_getD, List.getElem?_eq_getElem (by rw [show (spreadF bs).length = 64 from spreadN_len bs 64]; exact ht64)]
            rfl
          have cr : wr.cell? ⟨gk, t, none⟩ = some (.int .u32 (r.toNat : Int)) := by
            have h := (Only.of_below (HW9.out.trans (HX.out.mono HW9.out.size)) : Only Empty w wr).cell (p := ⟨gk, t, none⟩) hgk (fun h => h)
            exact h.trans (Hk.out t r (by rw [hr, List.getD_eq_getElem?_getD, List.getElem?_eq_getElem (by show t < 64; exact ht64)]; rfl))
          have htI : (t : Int) < 64 := by omega
          have T6 := Lib.hid (fun (W : World) (k : Nat) => turnQ V.e 6 (by omega) (by omega) W k)
          have T11 := Lib.hid (fun (W : World) (k : Nat) => turnQ V.e 11 (by omega) (by omega) W k)
          have T25 := Lib.hid (fun (W : World) (k : Nat) => turnQ V.e 25 (by omega) (by omega) W k)
          have T2 := Lib.hid (fun (W : World) (k : Nat) => turnQ V.a 2 (by omega) (by omega) W k)
          have T13 := Lib.hid (fun (W : World) (k : Nat) => turnQ V.a 13 (by omega) (by omega) W k)
          have T22 := Lib.hid (fun (W : World) (k : Nat) => turnQ V.a 22 (by omega) (by omega) W k)
          clear hV hx hr hc
          go_wp2
          go_quiet (fail)
          rename Nat => q1
          go_wp2_with fail
          obtain ⟨wd, hwd⟩ : ∃ W, wr.drewN q1 = W := ⟨_, rfl⟩
          have u0 : wd.cell? ⟨g2, 0, none⟩ = some (.int .u32 (V.a.toNat : Int)) := by rw [← hwd]; exact v0
          have u1 : wd.cell? ⟨g2, 1, none⟩ = some (.int .u32 (V.b.toNat : Int)) := by rw [← hwd]; exact v1
          have u2 : wd.cell? ⟨g2, 2, none⟩ = some (.int .u32 (V.c.toNat : Int)) := by rw [← hwd]; exact v2
          have u3 : wd.cell? ⟨g2, 3, none⟩ = some (.int .u32 (V.d.toNat : Int)) := by rw [← hwd]; exact v3
          have u4 : wd.cell? ⟨g2, 4, none⟩ = some (.int .u32 (V.e.toNat : Int)) := by rw [← hwd]; exact v4
          have u5_ : wd.cell? ⟨g2, 5, none⟩ = some (.int .u32 (V.f.toNat : Int)) := by rw [← hwd]; exact v5
          have u6_ : wd.cell? ⟨g2, 6, none⟩ = some (.int .u32 (V.g.toNat : Int)) := by rw [← hwd]; exact v6
          have u7_ : wd.cell? ⟨g2, 7, none⟩ = some (.int .u32 (V.h.toNat : Int)) := by rw [← hwd]; exact v7
          have ux : wd.cell? ⟨w.heap.size, t, none⟩ = some (.int .u32 (x.toNat : Int)) := by rw [← hwd]; exact cx
          have ur : wd.cell? ⟨gk, t, none⟩ = some (.int .u32 (r.toNat : Int)) := by rw [← hwd]; exact cr
          have HXd : Hid (Below w9.heap.size w9 wd) := Lib.hid (by rw [← hwd]; exact HX.out.drewN _)
          have hsd : g2 < wd.heap.size := by rw [← hwd]; exact HV.out.2.1
          rw [hwd]
          clear hwd v0 v1 v2 v3 v4 v5 v6 v7 cx cr
          go_wp2_with fail
          refine wp_region_quiet_lit (by kernel_rfl) (by kernel_rfl) ?_
          repeat (quiet_step (fail))
          refine wpQuiet_step (fun K hK => ?_)
          go_simp
          apply Exists.intro
          refine ⟨fun _ => ?_, hK _ ?_⟩
          · exact T6.out _ _
          clear hK K
          repeat (quiet_step (fail))
          refine wpQuiet_step (fun K hK => ?_)
          go_simp
          apply Exists.intro
          refine ⟨fun _ => ?_, hK _ ?_⟩
          · exact T11.out _ _
          clear hK K
          repeat (quiet_step (fail))
          refine wpQuiet_step (fun K hK => ?_)
          go_simp
          apply Exists.intro
          refine ⟨fun _ => ?_, hK _ ?_⟩
          · exact T25.out _ _
          clear hK K
          repeat (quiet_step (fail))
          refine wpQuiet_nil ?_
          intro _ hw'
          obtain ⟨q2, hw''⟩ := hw'
          subst hw''
          go_wp2_with fail
          rw [t1R]
          obtain ⟨T1, hT1⟩ : ∃ T1, T1 = t1F V (r + x) := ⟨_, rfl⟩
          rw [← hT1]
          have HT1 : Hid (T1 = t1F V (r + x)) := Lib.hid hT1
          clear hT1
          obtain ⟨we, hwe⟩ : ∃ W, wd.drewN q2 = W := ⟨_, rfl⟩
          have s0 : we.cell? ⟨g2, 0, none⟩ = some (.int .u32 (V.a.toNat : Int)) := by rw [← hwe]; exact u0
          have s1 : we.cell? ⟨g2, 1, none⟩ = some (.int .u32 (V.b.toNat : Int)) := by rw [← hwe]; exact u1
          have s2 : we.cell? ⟨g2, 2, none⟩ = some (.int .u32 (V.c.toNat : Int)) := by rw [← hwe]; exact u2
          have s3 : we.cell? ⟨g2, 3, none⟩ = some (.int .u32 (V.d.toNat : Int)) := by rw [← hwe]; exact u3
          have s4 : we.cell? ⟨g2, 4, none⟩ = some (.int .u32 (V.e.toNat : Int)) := by rw [← hwe]; exact u4
          have s5 : we.cell? ⟨g2, 5, none⟩ = some (.int .u32 (V.f.toNat : Int)) := by rw [← hwe]; exact u5_
          have s6 : we.cell? ⟨g2, 6, none⟩ = some (.int .u32 (V.g.toNat : Int)) := by rw [← hwe]; exact u6_
          have HXe : Hid (Below w9.heap.size w9 we) := Lib.hid (by rw [← hwe]; exact HXd.out.drewN _)
          have hse : g2 < we.heap.size := by rw [← hwe]; exact hsd
          rw [hwe]
          clear hwe hsd HXd u0 u1 u2 u3 u4 u5_ u6_ u7_ ux ur
          refine wp_region_quiet_lit (by kernel_rfl) (by kernel_rfl) ?_
          repeat (quiet_step (fail))
          refine wpQuiet_step (fun K hK => ?_)
          go_simp
          apply Exists.intro
          refine ⟨fun _ => ?_, hK _ ?_⟩
          · exact T2.out _ _
          clear hK K
          repeat (quiet_step (fail))
          refine wpQuiet_step (fun K hK => ?_)
          go_simp
          apply Exists.intro
          refine ⟨fun _ => ?_, hK _ ?_⟩
          · exact T13.out _ _
          clear hK K
          repeat (quiet_step (fail))
          refine wpQuiet_step (fun K hK => ?_)
          go_simp
          apply Exists.intro
          refine ⟨fun _ => ?_, hK _ ?_⟩
          · exact T22.out _ _
          clear hK K
          repeat (quiet_step (fail))
          refine wpQuiet_nil ?_
          intro _ hw'
          obtain ⟨q3, hw''⟩ := hw'
          subst hw''
          go_wp2_with fail
          rw [t2R]
          obtain ⟨T2, hT2⟩ : ∃ T2, T2 = t2F V := ⟨_, rfl⟩
          rw [← hT2]
          have HT : Hid (roundsN v bs (t + 1) = ⟨T1 + T2, V.a, V.b, V.c, V.d + T1, V.e, V.f, V.g⟩) := Lib.hid (by rw [HN.out, HT1.out, hT2]; rfl)
          clear hT2
          have hS2 : (we.drewN q3).drew.cell? ⟨g2, 0, none⟩ = some (.int .u32 (V.a.toNat : Int)) ∧ (we.drewN q3).drew.cell? ⟨g2, 1, none⟩ = some (.int .u32 (V.b.toNat : Int)) ∧ (we.drewN q3).drew.cell? ⟨g2, 2, none⟩ = some (.int .u32 (V.c.toNat : Int)) ∧ (we.drewN q3).drew.cell? ⟨g2, 3, none⟩ = some (.int .u32 (V.d.toNat : Int)) ∧ (we.drewN q3).drew.cell? ⟨g2, 4, none⟩ = some (.int .u32 (V.e.toNat : Int)) ∧ (we.drewN q3).drew.cell? ⟨g2, 5, none⟩ = some (.int .u32 (V.f.toNat : Int)) ∧ (we.drewN q3).drew.cell? ⟨g2, 6, none⟩ = some (.int .u32 (V.g.toNat : Int)) := ⟨s0, s1, s2, s3, s4, s5, s6⟩
          refine wp_region_held_drew (S := fun W => W.cell? ⟨g2, 0, none⟩ = some (.int .u32 (V.a.toNat : Int)) ∧ W.cell? ⟨g2, 1, none⟩ = some (.int .u32 (V.b.toNat : Int)) ∧ W.cell? ⟨g2, 2, none⟩ = some (.int .u32 (V.c.toNat : Int)) ∧ W.cell? ⟨g2, 3, none⟩ = some (.int .u32 (V.d.toNat : Int)) ∧ W.cell? ⟨g2, 4, none⟩ = some (.int .u32 (V.e.toNat : Int)) ∧ W.cell? ⟨g2, 5, none⟩ = some (.int .u32 (V.f.toNat : Int)) ∧ W.cell? ⟨g2, 6, none⟩ = some (.int .u32 (V.g.toNat : Int))) (by kernel_rfl) hS2 (fun hHeld0 => ?_)
          refine take_yes 0 187 ?_ rfl rfl (by kernel_rfl) (by kernel_rfl) (by kernel_rfl) (fun _ _ _ h => h) (by kernel_rfl) ?_ (by assumption) ?_; rotate_left; (focus (intro w hSw; (try dsimp only at hSw); go_simp; all_goals first | with_reducible rfl)); simp only [Act.put, List.setIfInBounds_toArray, List.set_cons_zero, List.set_cons_succ]
          refine take_yes 1 188 ?_ rfl rfl (by kernel_rfl) (by kernel_rfl) (by kernel_rfl) (fun _ _ _ h => h) (by kernel_rfl) ?_ (by assumption) ?_; rotate_left; (focus (intro w hSw; (try dsimp only at hSw); go_simp; all_goals first | with_reducible rfl)); simp only [Act.put, List.setIfInBounds_toArray, List.set_cons_zero, List.set_cons_succ]
          refine take_yes 2 189 ?_ rfl rfl (by kernel_rfl) (by kernel_rfl) (by kernel_rfl) (fun _ _ _ h => h) (by kernel_rfl) ?_ (by assumption) ?_; rotate_left; (focus (intro w hSw; (try dsimp only at hSw); go_simp; all_goals first | with_reducible rfl)); simp only [Act.put, List.setIfInBounds_toArray, List.set_cons_zero, List.set_cons_succ]
          refine take_yes 3 190 ?_ rfl rfl (by kernel_rfl) (by kernel_rfl) (by kernel_rfl) (fun _ _ _ h => h) (by kernel_rfl) ?_ (by assumption) ?_; rotate_left; (focus (intro w hSw; (try dsimp only at hSw); go_simp; all_goals first | with_reducible rfl)); simp only [Act.put, List.setIfInBounds_toArray, List.set_cons_zero, List.set_cons_succ]
          refine take_yes 4 191 ?_ rfl rfl (by kernel_rfl) (by kernel_rfl) (by kernel_rfl) (fun _ _ _ h => h) (by kernel_rfl) ?_ (by assumption) ?_; rotate_left; (focus (intro w hSw; (try dsimp only at hSw); go_simp; all_goals first | with_reducible rfl)); simp only [Act.put, List.setIfInBounds_toArray, List.set_cons_zero, List.set_cons_succ]
          refine take_yes 5 192 ?_ rfl rfl (by kernel_rfl) (by kernel_rfl) (by kernel_rfl) (fun _ _ _ h => h) (by kernel_rfl) ?_ (by assumption) ?_; rotate_left; (focus (intro w hSw; (try dsimp only at hSw); go_simp; all_goals first | with_reducible rfl)); simp only [Act.put, List.setIfInBounds_toArray, List.set_cons_zero, List.set_cons_succ]
          refine take_yes 6 193 ?_ rfl rfl (by kernel_rfl) (by kernel_rfl) (by kernel_rfl) (fun _ _ _ h => h) (by kernel_rfl) ?_ (by assumption) ?_; rotate_left; (focus (intro w hSw; (try dsimp only at hSw); go_simp; all_goals first | with_reducible rfl)); simp only [Act.put, List.setIfInBounds_toArray, List.set_cons_zero, List.set_cons_succ]
          refine take_yes 7 194 ?_ rfl rfl (by kernel_rfl) (by kernel_rfl) (by kernel_rfl) (fun _ _ _ h => h) (by kernel_rfl) ?_ (by assumption) ?_; rotate_left; (focus (intro w hSw; (try dsimp only at hSw); go_simp; all_goals first | with_reducible rfl)); simp only [Act.put, List.setIfInBounds_toArray, List.set_cons_zero, List.set_cons_succ]
          refine take_yes 8 195 ?_ rfl rfl (by kernel_rfl) (by kernel_rfl) (by kernel_rfl) (fun _ _ _ h => h) (by kernel_rfl) ?_ (by assumption) ?_; rotate_left; (focus (intro w hSw; (try dsimp only at hSw); go_simp; all_goals first | with_reducible rfl)); simp only [Act.put, List.setIfInBounds_toArray, List.set_cons_zero, List.set_cons_succ]
          refine take_yes 9 196 ?_ rfl rfl (by kernel_rfl) (by kernel_rfl) (by kernel_rfl) (fun _ _ _ h => h) (by kernel_rfl) ?_ (by assumption) ?_; rotate_left; (focus (intro w hSw; (try dsimp only at hSw); go_simp; all_goals first | with_reducible rfl)); simp only [Act.put, List.setIfInBounds_toArray, List.set_cons_zero, List.set_cons_succ]
          refine take_yes 10 197 ?_ rfl rfl (by kernel_rfl) (by kernel_rfl) (by kernel_rfl) (fun _ _ _ h => h) (by kernel_rfl) ?_ (by assumption) ?_; rotate_left; (focus (intro w hSw; (try dsimp only at hSw); go_simp; all_goals first | with_reducible rfl)); simp only [Act.put, List.setIfInBounds_toArray, List.set_cons_zero, List.set_cons_succ]
          refine take_yes 11 198 ?_ rfl rfl (by kernel_rfl) (by kernel_rfl) (by kernel_rfl) (fun _ _ _ h => h) (by kernel_rfl) ?_ (by assumption) ?_; rotate_left; (focus (intro w hSw; (try dsimp only at hSw); go_simp; all_goals first | with_reducible rfl)); simp only [Act.put, List.setIfInBounds_toArray, List.set_cons_zero, List.set_cons_succ]
          refine take_yes 12 199 ?_ rfl rfl (by kernel_rfl) (by kernel_rfl) (by kernel_rfl) (fun _ _ _ h => h) (by kernel_rfl) ?_ (by assumption) ?_; rotate_left; (focus (intro w hSw; (try dsimp only at hSw); go_simp; all_goals first | with_reducible rfl)); simp only [Act.put, List.setIfInBounds_toArray, List.set_cons_zero, List.set_cons_succ]
          refine take_yes 13 200 ?_ rfl rfl (by kernel_rfl) (by kernel_rfl) (by kernel_rfl) (fun _ _ _ h => h) (by kernel_rfl) ?_ (by assumption) ?_; rotate_left; (focus (intro w hSw; (try dsimp only at hSw); go_simp; all_goals first | with_reducible rfl)); simp only [Act.put, List.setIfInBounds_toArray, List.set_cons_zero, List.set_cons_succ]
          refine take_yes 14 201 ?_ rfl rfl (by kernel_rfl) (by kernel_rfl) (by kernel_rfl) (fun _ _ _ h => h) (by kernel_rfl) ?_ (by assumption) ?_; rotate_left; (focus (intro w hSw; (try dsimp only at hSw); go_simp; all_goals first | with_reducible rfl)); simp only [Act.put, List.setIfInBounds_toArray, List.set_cons_zero, List.set_cons_succ]
          refine take_yes 15 202 ?_ rfl rfl (by kernel_rfl) (by kernel_rfl) (by kernel_rfl) (fun _ _ _ h => h) (by kernel_rfl) ?_ (by assumption) ?_; rotate_left; (focus (intro w hSw; (try dsimp only at hSw); go_simp; all_goals first | with_reducible rfl)); simp only [Act.put, List.setIfInBounds_toArray, List.set_cons_zero, List.set_cons_succ]
          refine take_yes 16 203 ?_ rfl rfl (by kernel_rfl) (by kernel_rfl) (by kernel_rfl) (fun _ _ _ h => h) (by kernel_rfl) ?_ (by assumption) ?_; rotate_left; (focus (intro w hSw; (try dsimp only at hSw); go_simp; all_goals first | with_reducible rfl)); simp only [Act.put, List.setIfInBounds_toArray, List.set_cons_zero, List.set_cons_succ]
          refine take_yes 17 204 ?_ rfl rfl (by kernel_rfl) (by kernel_rfl) (by kernel_rfl) (fun _ _ _ h => h) (by kernel_rfl) ?_ (by assumption) ?_; rotate_left; (focus (intro w hSw; (try dsimp only at hSw); go_simp; all_goals first | with_reducible rfl)); simp only [Act.put, List.setIfInBounds_toArray, List.set_cons_zero, List.set_cons_succ]
          refine take_yes 18 205 ?_ rfl rfl (by kernel_rfl) (by kernel_rfl) (by kernel_rfl) (fun _ _ _ h => h) (by kernel_rfl) ?_ (by assumption) ?_; rotate_left; (focus (intro w hSw; (try dsimp only at hSw); go_simp; all_goals first | with_reducible rfl)); simp only [Act.put, List.setIfInBounds_toArray, List.set_cons_zero, List.set_cons_succ]
          refine take_yes 19 206 ?_ rfl rfl (by kernel_rfl) (by kernel_rfl) (by kernel_rfl) (fun _ _ _ h => h) (by kernel_rfl) ?_ (by assumption) ?_; rotate_left; (focus (intro w hSw; (try dsimp only at hSw); go_simp; all_goals first | with_reducible rfl)); simp only [Act.put, List.setIfInBounds_toArray, List.set_cons_zero, List.set_cons_succ]
          refine take_yes 20 207 ?_ rfl rfl (by kernel_rfl) (by kernel_rfl) (by kernel_rfl) (fun _ _ _ h => h) (by kernel_rfl) ?_ (by assumption) ?_; rotate_left; (focus (intro w hSw; (try dsimp only at hSw); go_simp; all_goals first | with_reducible rfl)); simp only [Act.put, List.setIfInBounds_toArray, List.set_cons_zero, List.set_cons_succ]
          refine take_yes 21 208 ?_ rfl rfl (by kernel_rfl) (by kernel_rfl) (by kernel_rfl) (fun _ _ _ h => h) (by kernel_rfl) ?_ (by assumption) ?_; rotate_left; (focus (intro w hSw; (try dsimp only at hSw); go_simp; all_goals first | with_reducible rfl)); simp only [Act.put, List.setIfInBounds_toArray, List.set_cons_zero, List.set_cons_succ]
          refine take_yes 22 209 ?_ rfl rfl (by kernel_rfl) (by kernel_rfl) (by kernel_rfl) (fun _ _ _ h => h) (by kernel_rfl) ?_ (by assumption) ?_; rotate_left; (focus (intro w hSw; (try dsimp only at hSw); go_simp; all_goals first | with_reducible rfl)); simp only [Act.put, List.setIfInBounds_toArray, List.set_cons_zero, List.set_cons_succ]
          refine take_yes 23 210 ?_ rfl rfl (by kernel_rfl) (by kernel_rfl) (by kernel_rfl) (fun _ _ _ h => h) (by kernel_rfl) ?_ (by assumption) ?_; rotate_left; (focus (intro w hSw; (try dsimp only at hSw); go_simp; all_goals first | with_reducible rfl)); simp only [Act.put, List.setIfInBounds_toArray, List.set_cons_zero, List.set_cons_succ]
          refine take_yes 24 211 ?_ rfl rfl (by kernel_rfl) (by kernel_rfl) (by kernel_rfl) (fun _ _ _ h => h) (by kernel_rfl) ?_ (by assumption) ?_; rotate_left; (focus (intro w hSw; (try dsimp only at hSw); go_simp; all_goals first | with_reducible rfl)); simp only [Act.put, List.setIfInBounds_toArray, List.set_cons_zero, List.set_cons_succ]
          refine take_yes 25 212 ?_ rfl rfl (by kernel_rfl) (by kernel_rfl) (by kernel_rfl) (fun _ _ _ h => h) (by kernel_rfl) ?_ (by assumption) ?_; rotate_left; (focus (intro w hSw; (try dsimp only at hSw); go_simp; all_goals first | with_reducible rfl)); simp only [Act.put, List.setIfInBounds_toArray, List.set_cons_zero, List.set_cons_succ]
          refine wpAnyH_ready (rs := [26]) (by kernel_rfl) (by simp) ?_
          refine AllReadyH.cons rfl (fun K hK => ?_) AllReadyH.nil
          go_simp
          rw [wadd_int, wadd_int]
          obtain ⟨w5, hw5⟩ : ∃ W, (we.drewN (q3 + 1)).alloc (.cells ((roundsN v bs (t + 1)).l.map WV).toArray 40) = W := ⟨_, rfl⟩
          have HV5 : Hid ((∀ j y, (roundsN v bs (t + 1)).l[j]? = some y → w5.cell? ⟨we.heap.size, j, none⟩ = some (WV y)) ∧ we.heap.size < w5.heap.size ∧ 8 ≤ 8 ∧ 8 ≤ 9223372036854775807) := Lib.hid (by
            have hB : Blk w5 we.heap.size 40 ((roundsN v bs (t + 1)).l.map WV).toArray := by rw [← hw5]; exact Blk.new (we.drewN (q3 + 1)) _ _
            exact ⟨fun j y hj => by rw [hB.cell, row_get, hj]; rfl, hB.lt, by omega, by omega⟩)
          have hB5 : Below we.heap.size we w5 := by rw [← hw5]; exact ((Below.refl we.heap.size we).drewN _).alloc (Nat.le_refl _) _
          have far : ∀ j y, we.cell? ⟨g2, j, none⟩ = some y → w5.cell? ⟨g2, j, none⟩ = some y := fun j y h => ((Only.of_below hB5 : Only Empty we w5).cell (p := ⟨g2, j, none⟩) hse (fun h => h)).trans h
          have HX5 : Hid (Below w9.heap.size w9 w5) := Lib.hid (HXe.out.trans (hB5.mono HXe.out.size))
          have hf := And.intro (far _ _ s0) (And.intro (far _ _ s1) (And.intro (far _ _ s2) (And.intro (far _ _ s3) (And.intro (far _ _ s4) (And.intro (far _ _ s5) (far _ _ s6))))))
          rw [HT.out] at hw5
          change K _ ((we.drewN (q3 + 1)).alloc (.cells ((⟨T1 + T2, V.a, V.b, V.c, V.d + T1, V.e, V.f, V.g⟩ : W8).l.map WV).toArray 40))
          rw [hw5]
          clear far hB5
          refine hK.out _ _ (hf) (fun _ => ?_)
          clear hK K
          try simp only [Act.put, List.setIfInBounds_toArray, List.set_cons_zero, List.set_cons_succ]
          refine take_yes 27 13 ?_ rfl rfl (by kernel_rfl) (by kernel_rfl) (by kernel_rfl) (fun _ _ _ h => h) (by kernel_rfl) ?_ (by assumption) ?_; rotate_left; (focus (intro w hSw; (try dsimp only at hSw); go_simp; all_goals first | with_reducible rfl)); simp only [Act.put, List.setIfInBounds_toArray, List.set_cons_zero, List.set_cons_succ]
          refine wpAnyH_done (by kernel_rfl) ?_ _
          clear hw5 hf
          go_wp2
          go_roundw
          case rel => exact ⟨t + 1, we.heap.size, 8, by omega, rfl, by go_num, HV5, HX5⟩
          case measure => simp [intOf]; omega
        · have ht : t = 64 := by omega
          subst ht
          rename World => wz
          have hge : ¬ ((64 : Nat) : Int) < 64 := by omega
          have HHr : Hid (Blk wz gh 40 (v.l.map WV).toArray) := Lib.hid (Hh.out.of ((HW9.out.trans (HX.out.mono HW9.out.size)).block _ hgh))
          have HWr : Hid (Below w.heap.size w wz) := Lib.hid (HW9.out.trans (HX.out.mono HW9.out.size))
          have hmk8 : ∀ W : World, (Instr.makeSlice 41 (.int .i64 8) (.int .i64 8)).run Tryd.prog W = .ok (.slice (some ⟨W.heap.size, 0, none⟩) 8 8) (W.alloc (.cells (rowO v (roundsN v bs 64) 0) 40)) := fun W => run_makeW 8 (by omega) W
          obtain ⟨S, hS⟩ : ∃ S, S = roundsN v bs 64 := ⟨_, rfl⟩
          rw [← hS] at hmk8 HV
          have HM : Hid (mixF v bs = addW v S) := Lib.hid (by rw [hS]; rfl)
          obtain ⟨Z8, hZ8⟩ : ∃ Z, Z = rowO v S 0 := ⟨_, rfl⟩
          rw [← hZ8] at hmk8
          have HZ8 := Lib.hid hZ8
          clear hZ8 HR9 HX HW9 HW hS
          go_wp2_with fail
          clear hmk8
          have hghz := HHr.out.lt
          have hg2z := HV.out.2.1
          have hcv := HV.out.2.2.1
          have hcv2 := HV.out.2.2.2
          go_loopw [218] (fun i wq => ∃ n : Nat, n ≤ 8 ∧ i = .int .i64 (n : Int) ∧ Hid (Blk wq wz.heap.size 40 (rowO v S n)) ∧ Hid (Below wz.heap.size wz wq)) (fun i _ => 8 - (intOf i).toNat)
          case atStart =>
            refine ⟨0, by omega, rfl, Lib.hid ?_, Lib.hid ((Below.refl _ _).alloc (Nat.le_refl _) _)⟩
            rw [← HZ8.out]
            exact Blk.new _ _ _
          case round =>
            obtain ⟨n, hn, rfl, HO, HB⟩ := hrel
            have hnI : 0 ≤ (n : Int) := by omega
            by_cases hlt : n < 8
            · have hltI : (n : Int) < 8 := by omega
              obtain ⟨a, ha⟩ : ∃ a, v.l[n]? = some a := ⟨_, List.getElem?_eq_getElem (by show n < 8; exact hlt)⟩
              obtain ⟨b, hb⟩ : ∃ b, S.l[n]? = some b := ⟨_, List.getElem?_eq_getElem (by show n < 8; exact hlt)⟩
              have HD : Hid ((rowO v S n).setIfInBounds n (WV (a + b)) = rowO v S (n + 1)) := Lib.hid (rowO_set v S n a b ha hb)
              have ca : wr.drew.cell? ⟨gh, n, none⟩ = some (.int .u32 (a.toNat : Int)) := by
                have h := (HHr.out.of (HB.out.block _ hghz)).drew.cell n
                rw [row_get, ha] at h
                exact h
              have cb' : wr.drew.cell? ⟨g2, n, none⟩ = some (.int .u32 (b.toNat : Int)) := by
                have h := (Only.of_below HB.out : Only Empty wz wr).cell (p := ⟨g2, n, none⟩) hg2z (fun h => h)
                exact h.trans (HV.out.1 n b hb)
              have f3 := HO.out.frozen n
              have c3 : ∃ u, wr.cell? ⟨wz.heap.size, n, none⟩ = some u := ⟨_, by rw [HO.out.cell]; exact Array.getElem?_eq_getElem (by rw [rowO_size _ _ _ hn]; exact hlt)⟩
              obtain ⟨u, c3⟩ := c3
              clear ha hb
              go_wp2_with fail
              refine wp_region_held_drew (S := fun W => W.cell? ⟨gh, n, none⟩ = some (.int .u32 (a.toNat : Int)) ∧ W.cell? ⟨g2, n, none⟩ = some (.int .u32 (b.toNat : Int))) (by kernel_rfl) ⟨ca, cb'⟩ (fun hHeld0 => ?_)
              refine take_yes 0 221 ?_ rfl rfl (by kernel_rfl) (by kernel_rfl) (by kernel_rfl) (fun _ _ _ h => h) (by kernel_rfl) ?_ (by assumption) ?_; rotate_left; (focus (intro w hSw; (try dsimp only at hSw); go_simp; all_goals first | with_reducible rfl)); simp only [Act.put, List.setIfInBounds_toArray, List.set_cons_zero, List.set_cons_succ]
              refine take_yes 1 222 ?_ rfl rfl (by kernel_rfl) (by kernel_rfl) (by kernel_rfl) (fun _ _ _ h => h) (by kernel_rfl) ?_ (by assumption) ?_; rotate_left; (focus (intro w hSw; (try dsimp only at hSw); go_simp; all_goals first | with_reducible rfl)); simp only [Act.put, List.setIfInBounds_toArray, List.set_cons_zero, List.set_cons_succ]
              refine take_yes 2 223 ?_ rfl rfl (by kernel_rfl) (by kernel_rfl) (by kernel_rfl) (fun _ _ _ h => h) (by kernel_rfl) ?_ (by assumption) ?_; rotate_left; (focus (intro w hSw; (try dsimp only at hSw); go_simp; all_goals first | with_reducible rfl)); simp only [Act.put, List.setIfInBounds_toArray, List.set_cons_zero, List.set_cons_succ]
              refine take_yes 3 224 ?_ rfl rfl (by kernel_rfl) (by kernel_rfl) (by kernel_rfl) (fun _ _ _ h => h) (by kernel_rfl) ?_ (by assumption) ?_; rotate_left; (focus (intro w hSw; (try dsimp only at hSw); go_simp; all_goals first | with_reducible rfl)); simp only [Act.put, List.setIfInBounds_toArray, List.set_cons_zero, List.set_cons_succ]
              refine take_yes 4 225 ?_ rfl rfl (by kernel_rfl) (by kernel_rfl) (by kernel_rfl) (fun _ _ _ h => h) (by kernel_rfl) ?_ (by assumption) ?_; rotate_left; (focus (intro w hSw; (try dsimp only at hSw); go_simp; all_goals first | with_reducible rfl)); simp only [Act.put, List.setIfInBounds_toArray, List.set_cons_zero, List.set_cons_succ]
              refine take_yes 5 226 ?_ rfl rfl (by kernel_rfl) (by kernel_rfl) (by kernel_rfl) (fun _ _ _ h => h) (by kernel_rfl) ?_ (by assumption) ?_; rotate_left; (focus (intro w hSw; (try dsimp only at hSw); go_simp; all_goals first | with_reducible rfl)); simp only [Act.put, List.setIfInBounds_toArray, List.set_cons_zero, List.set_cons_succ]
              refine take_yes 6 227 ?_ rfl rfl (by kernel_rfl) (by kernel_rfl) (by kernel_rfl) (fun _ _ _ h => h) (by kernel_rfl) ?_ (by assumption) ?_; rotate_left; (focus (intro w hSw; (try dsimp only at hSw); go_simp; all_goals first | with_reducible rfl)); simp only [Act.put, List.setIfInBounds_toArray, List.set_cons_zero, List.set_cons_succ]
              refine take_yes 7 228 ?_ rfl rfl (by kernel_rfl) (by kernel_rfl) (by kernel_rfl) (fun _ _ _ h => h) (by kernel_rfl) ?_ (by assumption) ?_; rotate_left; (focus (intro w hSw; (try dsimp only at hSw); go_simp; all_goals first | with_reducible rfl)); simp only [Act.put, List.setIfInBounds_toArray, List.set_cons_zero, List.set_cons_succ]
              refine take_yes 8 229 ?_ rfl rfl (by kernel_rfl) (by kernel_rfl) (by kernel_rfl) (fun _ _ _ h => h) (by kernel_rfl) ?_ (by assumption) ?_; rotate_left; (focus (intro w hSw; (try dsimp only at hSw); go_simp; all_goals first | with_reducible rfl)); simp only [Act.put, List.setIfInBounds_toArray, List.set_cons_zero, List.set_cons_succ]
              refine take_yes 9 230 ?_ rfl rfl (by kernel_rfl) (by kernel_rfl) (by kernel_rfl) (fun _ _ _ h => h) (by kernel_rfl) ?_ (by assumption) ?_; rotate_left; (focus (intro w hSw; (try dsimp only at hSw); go_simp; all_goals first | with_reducible rfl)); simp only [Act.put, List.setIfInBounds_toArray, List.set_cons_zero, List.set_cons_succ]
              refine take_yes 10 231 ?_ rfl rfl (by kernel_rfl) (by kernel_rfl) (by kernel_rfl) (fun _ _ _ h => h) (by kernel_rfl) ?_ (by assumption) ?_; rotate_left; (focus (intro w hSw; (try dsimp only at hSw); go_simp; all_goals first | with_reducible rfl)); simp only [Act.put, List.setIfInBounds_toArray, List.set_cons_zero, List.set_cons_succ]
              refine take_yes 11 232 ?_ rfl rfl (by kernel_rfl) (by kernel_rfl) (by kernel_rfl) (fun _ _ _ h => h) (by kernel_rfl) ?_ (by assumption) ?_; rotate_left; (focus (intro w hSw; (try dsimp only at hSw); go_simp; all_goals first | with_reducible rfl)); simp only [Act.put, List.setIfInBounds_toArray, List.set_cons_zero, List.set_cons_succ]
              refine wpAnyH_ready (rs := [12]) (by kernel_rfl) (by simp) ?_
              refine AllReadyH.cons rfl (fun K hK => ?_) AllReadyH.nil
              go_simp
              rw [wadd_int]
              obtain ⟨w5, hw5⟩ : ∃ W, (wr.setCell ⟨wz.heap.size, n, none⟩ (WV (a + b))).drew = W := ⟨_, rfl⟩
              change K _ ((wr.setCell ⟨wz.heap.size, n, none⟩ (WV (a + b))).drew)
              have hn1 : gh ≠ wz.heap.size := by omega
              have hn2 : g2 ≠ wz.heap.size := by omega
              have hf : w5.cell? ⟨gh, n, none⟩ = some (.int .u32 (a.toNat : Int)) ∧ w5.cell? ⟨g2, n, none⟩ = some (.int .u32 (b.toNat : Int)) := by
                rw [← hw5]
                exact ⟨by show (wr.setCell _ _).cell? _ = _; rw [World.cell?_setCell_other _ _ _ _ (by simp <;> omega)]; exact ca, by show (wr.setCell _ _).cell? _ = _; rw [World.cell?_setCell_other _ _ _ _ (by simp <;> omega)]; exact cb'⟩
              have HO5 : Hid (Blk w5 wz.heap.size 40 (rowO v S (n + 1))) := Lib.hid (by
                rw [← hw5, ← HD.out]
                exact (HO.out.set_ n (WV (a + b))).drew)
              have HB5 : Hid (Below wz.heap.size wz w5) := Lib.hid (by rw [← hw5]; exact (HB.out.setCell (by simp) _).drew)
              rw [hw5]
              refine hK.out _ _ (hf) (fun _ => ?_)
              clear hK K
              try simp only [Act.put, List.setIfInBounds_toArray, List.set_cons_zero, List.set_cons_succ]
              refine wpAnyH_done (by kernel_rfl) ?_ _
              clear hw5 hf
              go_wp2
              go_roundw
              case rel => exact ⟨n + 1, by omega, by go_num, HO5, HB5⟩
              case measure => simp [intOf]; omega
            · have hn8 : n = 8 := by omega
              have hge8 : ¬ (n : Int) < 8 := by omega
              have HRes : Hid (∃ g, (Ending.returned (.slice (some ⟨wz.heap.size, 0, none⟩) 8 8)) = Ending.returned (.slice (some ⟨g, 0, none⟩) 8 8) ∧ Blk wr g 40 ((mixF v bs).l.map WV).toArray ∧ Below w.heap.size w wr) := Lib.hid ⟨_, rfl, by rw [HM.out, ← rowO_all, ← hn8]; exact HO.out, HWr.out.trans (HB.out.mono HWr.out.size)⟩
              go_wp2
              go_ret
              exact HRes.out
end Go.Proofs.YtpcjmicciccihaaDoor

/- The document's Sum: what its loops lean on (plain). -/
namespace Go.Proofs.YtpcjmicciccihaaDoor
set_option maxRecDepth 100000
open Go.RowKit

/-- The zeros behind the first byte more: they end where the length's bytes begin. -/
theorem padZ (n k : Nat) (hk : k ≤ endZ n) : (n + 1 + k) % 64 = 56 ↔ k = endZ n := by
  unfold endZ at *
  omega
theorem pad_more (l : List UInt8) (k : Nat) : (l ++ 128 :: List.replicate k 0) ++ [0] = l ++ 128 :: List.replicate (k + 1) 0 := by
  rw [List.replicate_succ', List.append_assoc]
  rfl
theorem pad_len (l : List UInt8) (k : Nat) : (l ++ 128 :: List.replicate k 0).length = l.length + 1 + k := by
  simp; omega
theorem pad_all (l : List UInt8) : (l ++ 128 :: List.replicate (endZ l.length) 0) ++ putL (l.length * 8 % 18446744073709551616) 8 = l ++ endL l.length := by
  unfold endL
  rw [List.append_assoc]
theorem blocksF_next (w : W8) (m : List UInt8) (k : Nat) : blocksF w m (k + 1) = blocksF (mixF w (m.take 64)) (m.drop 64) k := rfl
end Go.Proofs.YtpcjmicciccihaaDoor

/- The document's Sum: its walk. -/
namespace Go.Proofs.YtpcjmicciccihaaDoor
set_option maxRecDepth 100000
open Go.RowKit

theorem own_form {w : World} {base n : Nat} {v : Value} {xs : List Value} (h : w.ownsRow base 5 1 v n xs) (hn : n ≠ 0) : ∃ g cap, v = .slice (some ⟨g, 0, none⟩) n cap ∧ base ≤ g := by
  rcases h.2 with ⟨_, h0⟩ | ⟨g, cap, cur, e, hb, _⟩
  · exact absurd h0 hn
  · exact ⟨g, cap, e, hb⟩

def rowQ (s : W8) (q : Nat) : Array Value := cellsB ((digest s).take (4 * q) ++ List.replicate (32 - 4 * q) 0)
theorem rowQ_set (s : W8) (q : Nat) (x : UInt32) (hx : s.l[q]? = some x) : ((((rowQ s q).setIfInBounds (4 * q) (B8 (byteOf x.toNat 3))).setIfInBounds (4 * q + 1) (B8 (byteOf x.toNat 2))).setIfInBounds (4 * q + 2) (B8 (byteOf x.toNat 1))).setIfInBounds (4 * q + 3) (B8 (byteOf x.toNat 0)) = rowQ s (q + 1) := by
  have hk : q < 8 := (List.getElem?_eq_some_iff.1 hx).1
  have hd : ∀ (l : List UInt32) (q : Nat), l[q]? = some x → (l.flatMap fun y => putL y.toNat 4).take (4 * (q + 1)) = (l.flatMap fun y => putL y.toNat 4).take (4 * q) ++ putL x.toNat 4 := by
    intro l
    induction l with
    | nil => intro q h; simp at h
    | cons y l ih =>
      intro q h
      rw [List.flatMap_cons]
      rcases q with _ | q
      · have : y = x := by simpa using h
        subst this
        rw [show 4 * (0 + 1) = (putL y.toNat 4).length by rw [putL_len], List.take_left']
        · simp
        · rfl
      · have h2 := ih q (by simpa using h)
        rw [show 4 * (q + 1 + 1) = (putL y.toNat 4).length + 4 * (q + 1) by rw [putL_len]; omega, show 4 * (q + 1) = (putL y.toNat 4).length + 4 * q by rw [putL_len]; omega, List.take_length_add_append, List.take_length_add_append, show (putL y.toNat 4).length + 4 * q = 4 * (q + 1) by rw [putL_len]; omega, h2, List.append_assoc]
  have h1 := hd s.l q hx
  have hl : ((digest s).take (4 * q)).length = 4 * q := by rw [List.length_take, digest_len]; omega
  have hp : putL x.toNat 4 = [byteOf x.toNat 3, byteOf x.toNat 2, byteOf x.toNat 1, byteOf x.toNat 0] := rfl
  unfold rowQ cellsB
  rw [show (digest s).take (4 * (q + 1)) = (digest s).take (4 * q) ++ putL x.toNat 4 from h1, hp]
  obtain ⟨A, hA⟩ : ∃ A, A = (digest s).take (4 * q) := ⟨_, rfl⟩
  rw [← hA] at hl ⊢
  rw [show 32 - 4 * q = (32 - 4 * (q + 1)) + 1 + 1 + 1 + 1 by omega]
  simp only [List.replicate_succ, List.setIfInBounds_toArray, List.map_append, List.map_cons]
  rw [← hl]
  simp [List.set_append_right]
theorem rowQ_all (s : W8) : rowQ s 8 = cellsB (digest s) := rfl
theorem rowQ_zero (s : W8) : rowQ s 0 = cellsB (List.replicate 32 0) := rfl
theorem rowQ_size (s : W8) (q : Nat) (hq : q ≤ 8) : (rowQ s q).size = 32 := by
  unfold rowQ
  rw [cellsB_len]
  simp [digest_len]
  omega

theorem own_cell {w : World} {base g n c : Nat} {l : List UInt8} (h : w.ownsRow base 5 1 (.slice (some ⟨g, 0, none⟩) n c) n (l.map B8)) : (∀ (j : Nat) (x : UInt8), l[j]? = some x → w.cell? ⟨g, j, none⟩ = some (B8 x)) ∧ g < w.heap.size ∧ n ≤ c ∧ c ≤ maxLen ∧ l.length = n := by
  have hlen : l.length = n := by have := h.1; simpa using this
  rcases h.2 with ⟨h0, _⟩ | ⟨g', c2, cur, e, hb, hB, hn, hc, hsz, hx⟩
  · cases h0
  · cases e
    have hK : Blk w g 5 cur := hB
    refine ⟨fun j x hj => ?_, hK.lt, hn, hc, hlen⟩
    have hjn : j < n := by rw [← hlen]; exact (List.getElem?_eq_some_iff.1 hj).1
    have h2 : (cur.toList.take (n * 1))[j]? = (l.map B8)[j]? := by rw [hx]
    rw [List.getElem?_take_of_lt (by omega), List.getElem?_map, hj] at h2
    rw [hK.cell, ← Array.getElem?_toList]
    exact h2

set_option maxHeartbeats 4000000 in
theorem r21sum_any (w : World) (A : Option Addr) (m cap : Nat) (xs : List UInt8) (hB : ByteSl w Empty A m cap xs) (hA : A = none → m = 0 ∧ cap = 0) (hm : m ≤ 1048576) :
    Calls Tryd.prog 8 #[.slice A m cap] w fun e w' => e = .returned (.agg (cellsB (sumF xs))) ∧ Below w.heap.size w w' := by
  have hml := hB.1
  obtain ⟨w1, hw1⟩ : ∃ W, w.alloc (.cells (cellsB (List.replicate 32 0)) 24) = W := ⟨_, rfl⟩
  have hs1 : w1.heap.size = w.heap.size + 1 := by rw [← hw1]; simp
  have HZ : Hid (Blk w1 w.heap.size 24 (cellsB (List.replicate 32 0))) := Lib.hid (by rw [← hw1]; exact Blk.new _ _ _)
  have HW1 : Hid (Below w.heap.size w w1) := Lib.hid (by rw [← hw1]; exact (Below.refl _ _).alloc (Nat.le_refl _) _)
  have HO : Hid ((w1.alloc (.cells #[] 5)).ownsRow (w.heap.size + 1) 5 1 (.slice (some ⟨w.heap.size + 1, 0, none⟩) 0 0) 0 (([] : List UInt8).map B8)) := Lib.hid (by
    have h := own_made w1 (w.heap.size + 1) (by omega)
    rw [hs1] at h
    exact h)
  have HB : Hid (ByteSl (w1.alloc (.cells #[] 5)) Empty A m cap xs) := Lib.hid ((hB.only (Only.of_below HW1.out : Only Empty w w1) (fun _ _ h => h)).only ((Only.refl Empty w1).alloc (.cells #[] 5)) (fun _ _ h => h))
  have HB2 : Hid (Below (w.heap.size + 1) w1 (w1.alloc (.cells #[] 5))) := Lib.hid ((Below.refl _ w1).alloc (by omega) _)
  have HA := Lib.hid hA
  have Hml := Lib.hid hml
  clear hB hA hml
  have hcells : cellsB (List.replicate 32 0) = #[.int .u8 0, .int .u8 0, .int .u8 0, .int .u8 0, .int .u8 0, .int .u8 0, .int .u8 0, .int .u8 0, .int .u8 0, .int .u8 0, .int .u8 0, .int .u8 0, .int .u8 0, .int .u8 0, .int .u8 0, .int .u8 0, .int .u8 0, .int .u8 0, .int .u8 0, .int .u8 0, .int .u8 0, .int .u8 0, .int .u8 0, .int .u8 0, .int .u8 0, .int .u8 0, .int .u8 0, .int .u8 0, .int .u8 0, .int .u8 0, .int .u8 0, .int .u8 0] := rfl
  rw [hcells] at hw1
  clear hcells
  go_enter Tryd.func8, Tryd.ntmps8
  go_wp2_with (at_builtin; refine wpList_append_bytes rfl (.tmp 11) (.tmp 12) rfl (w.heap.size + 1) _ rfl 0 [] HO.out A m cap xs Empty rfl HB.out HA.out (by omega) (by simp; omega) ?_)
  intro v7 w7 hown7 hg7 _
  have Hown : Hid (w7.ownsRow (w.heap.size + 1) 5 1 v7 m (xs.map B8)) := Lib.hid (by simpa using hown7)
  have HW7 : Hid (Below (w.heap.size + 1) w1 w7) := Lib.hid (below_grown HB2.out (by simp; omega) hg7 (fun q hq => by simp [Value.ownBlock] at hq; omega))
  clear hown7 hg7
  have e128 : cellsB [128] = #[.int .u8 128] := rfl
  have hl := ByteSl.lit w7 Empty [128] 1 rfl (fun h => h) (by decide)
  rw [e128] at hl
  have HL := Lib.hid hl
  have HO2 := Lib.hid (own_alloc Hown.out (.cells #[.int .u8 128] 5))
  have h71 := HW7.out.size
  have HW2 := Lib.hid (HW7.out.alloc (by omega) (.cells #[.int .u8 128] 5))
  have Hlt2 : Hid (∀ q, v7.ownBlock = some q → w.heap.size + 1 ≤ q) := Lib.hid (fun q hq => ((own_alloc Hown.out (.cells #[.int .u8 128] 5)).lt q hq).1)
  clear e128 hl
  go_wp2_with (at_builtin; refine wpList_append_bytes rfl (.tmp 13) (.tmp 14) rfl (w.heap.size + 1) _ rfl m xs HO2.out (some ⟨w7.heap.size, 0, none⟩) 1 1 [128] Empty rfl HL.out (fun h => by cases h) (by omega) (by simp; omega) ?_)
  intro v8 w8 hown8 hg8 _
  obtain ⟨g8, c8, rfl, hb8⟩ := own_form hown8 (by omega)
  have Hown8 : Hid (w8.ownsRow (w.heap.size + 1) 5 1 (.slice (some ⟨g8, 0, none⟩) (m + 1) c8) (m + 1) ((xs ++ [128]).map B8)) := Lib.hid (by rw [List.map_append]; exact hown8)
  have HW8 : Hid (Below (w.heap.size + 1) w1 w8) := Lib.hid (below_grown HW2.out (by simp; omega) hg8 (fun q hq => Hlt2.out q hq))
  clear hown8 hg8 HO2 HW2 HL Hown HW7 HB HO HB2
  go_wp2_with fail
  go_loopw [3] (fun u wr => ∃ k g c : Nat, k ≤ endZ m ∧ u = .slice (some ⟨g, 0, none⟩) (m + 1 + k) c ∧ w.heap.size + 1 ≤ g ∧ Hid (wr.ownsRow (w.heap.size + 1) 5 1 (.slice (some ⟨g, 0, none⟩) (m + 1 + k) c) (m + 1 + k) ((xs ++ 128 :: List.replicate k 0).map B8)) ∧ Hid (Below (w.heap.size + 1) w1 wr)) (fun u _ => match u with | .slice _ n _ => (m + 1 + endZ m + 1) - n | _ => 0)
  case atStart => exact ⟨0, g8, c8, by omega, rfl, hb8, Hown8, HW8⟩
  case round =>
    obtain ⟨k, g, c, hk, rfl, hg, HO, HW⟩ := hrel
    obtain ⟨L, hL⟩ : ∃ L, L = m + 1 + k := ⟨_, rfl⟩
    rw [← hL] at HO ⊢
    have HLk := Lib.hid hL
    by_cases he : k = endZ m
    · have hp : L % 64 = 56 := by rw [hL]; exact (padZ m k hk).2 he
      have hpI : ((L : Int) % 64) = 56 := by omega
      clear hL
      go_wp2_with fail
      obtain ⟨N, hN⟩ : ∃ N : Nat, N = m * 8 := ⟨_, rfl⟩
      have hNI : (m : Int) * 8 = (N : Int) := by omega
      rw [hNI]
      have HN := Lib.hid hN
      have hN64 : N < 18446744073709551616 := by omega
      obtain ⟨P, hP⟩ : ∃ P, P = xs ++ 128 :: List.replicate k 0 := ⟨_, rfl⟩
      have HP := Lib.hid hP
      rw [← hP] at HO
      have hL2 : L ≤ 1048641 := by
        have := HLk.out
        have : endZ m < 64 := by unfold endZ; omega
        omega
      have hL1 : L ≠ 0 := by have := HLk.out; omega
      clear hN hNI hP hp hpI
      rename World => wp
      rename Hid (Below (w.heap.size + 1) w1 wp) => HWp
      go_loopw [3, 5] (fun u i wr => ∃ q g c : Nat, q ≤ 8 ∧ u = .slice (some ⟨g, 0, none⟩) (L + q) c ∧ i = .int .i64 ((7 : Int) - (q : Int)) ∧ w.heap.size + 1 ≤ g ∧ Hid (wr.ownsRow (w.heap.size + 1) 5 1 (.slice (some ⟨g, 0, none⟩) (L + q) c) (L + q) ((P ++ (putL N 8).take q).map B8)) ∧ Hid (Below (w.heap.size + 1) w1 wr)) (fun _ i _ => (intOf i + 1).toNat)
      case atStart => exact ⟨0, g, c, by omega, rfl, rfl, hg, Lib.hid (by simpa using HO.out), HWp⟩
      case round =>
        obtain ⟨q, g, c, hq, rfl, rfl, hg, HO, HW⟩ := hrel
        by_cases hlt : q < 8
        · obtain ⟨j, hj⟩ : ∃ j : Nat, 7 - q = j := ⟨_, rfl⟩
          have hj1 : (7 : Int) - (q : Int) = (j : Int) := by omega
          have hj2 : j ≤ 7 := by omega
          have hby := byteOf_int N j
          have hnx := putL_next N 8 q hlt
          rw [show 8 - 1 - q = j by omega] at hnx
          rw [hj1]
          have Hj := Lib.hid hj
          have Hnx := Lib.hid hnx
          clear hj hj1 hnx
          have e : cellsB [byteOf N j] = #[.int .u8 ((N : Int) / 2 ^ (8 * j) % 256)] := by
            show #[Value.int .u8 ((byteOf N j).toNat : Int)] = _
            rw [hby]
          have hl := ByteSl.lit wr Empty [byteOf N j] 1 rfl (fun h => h) (by decide)
          rw [e] at hl
          have HL := Lib.hid hl
          have HO2 := Lib.hid (own_alloc HO.out (.cells #[.int .u8 ((N : Int) / 2 ^ (8 * j) % 256)] 5))
          have h71 := HW.out.size
          have HW2 := Lib.hid (HW.out.alloc (by omega) (.cells #[.int .u8 ((N : Int) / 2 ^ (8 * j) % 256)] 5))
          clear e hl hby
          go_wp2_with (at_builtin; refine wpList_append_bytes rfl (.tmp 31) (.tmp 38) rfl (w.heap.size + 1) _ rfl (L + q) (P ++ (putL N 8).take q) HO2.out (some ⟨wr.heap.size, 0, none⟩) 1 1 [byteOf N j] Empty rfl HL.out (fun h => by cases h) (by omega) (by simp; omega) ?_)
          intro v9 w9 hown9 hg9 _
          obtain ⟨g9, c9, rfl, hb9⟩ := own_form hown9 (by omega)
          have HO9 : Hid (w9.ownsRow (w.heap.size + 1) 5 1 (.slice (some ⟨g9, 0, none⟩) (L + (q + 1)) c9) (L + (q + 1)) ((P ++ (putL N 8).take (q + 1)).map B8)) := Lib.hid (by
            rw [Hnx.out]
            simpa [Nat.add_assoc] using hown9)
          have HW9 : Hid (Below (w.heap.size + 1) w1 w9) := Lib.hid (below_grown HW2.out (by simp; omega) hg9 (fun q hq => by simp [Value.ownBlock] at hq; omega))
          clear hown9 hg9
          go_wp2
          go_roundw
          case rel => exact ⟨q + 1, g9, c9, by omega, rfl, by congr 1; have := Hj.out; omega, hb9, HO9, HW9⟩
          case measure => simp [intOf]
        · obtain rfl : q = 8 := by omega
          obtain ⟨T, hT⟩ : ∃ T, L + 8 = 64 * T := ⟨(L + 8) / 64, by have := HLk.out; have h5 := (padZ m k hk).2 he; omega⟩
          have hM : P ++ (putL N 8).take 8 = xs ++ endL m := by
            rw [HP.out, he, List.take_of_length_le (by rw [putL_len]; omega)]
            have h := pad_all xs
            rw [Hml.out, Nat.mod_eq_of_lt (by omega), ← HN.out] at h
            exact h
          obtain ⟨M, hMM⟩ : ∃ M, M = xs ++ endL m := ⟨_, rfl⟩
          have HM := Lib.hid hMM
          rw [hM, ← hMM] at HO
          clear hM hMM
          go_wp2_with fail
          have hst : #[Value.int .u32 1779033703, .int .u32 3144134277, .int .u32 1013904242, .int .u32 2773480762, .int .u32 1359893119, .int .u32 2600822924, .int .u32 528734635, .int .u32 1541459225] = (startW.l.map WV).toArray := rfl
          rw [hst]
          clear hst
          refine (keys_any _).mono ?_
          rintro e wk ⟨Ak, ck, rfl, hGk, hbk⟩
          obtain ⟨gk, rfl, hgk⟩ := got_some (f := WV) hGk (by omega)
          have ho := own_cell HO.out
          have HC : Hid (∀ (j : Nat) (x : UInt8), M[j]? = some x → wk.cell? ⟨g, j, none⟩ = some (B8 x)) := Lib.hid (fun j x hj => by
            have h := (Only.of_below hbk : Only Empty _ wk).cell (p := ⟨g, j, none⟩) (by simp; have := ho.2.1; omega) (fun h => h)
            rw [h, World.cell?_alloc_lt _ _ _ ho.2.1]
            exact ho.1 j x hj)
          have hgz : g < wk.heap.size := by
            have h1 := hbk.size
            have h2 := ho.2.1
            simp at h1
            omega
          have hc0 : 64 * T ≤ c := by have := ho.2.2.1; omega
          have hc1 : c ≤ 9223372036854775807 := by have := ho.2.2.2.1; unfold maxLen at this; omega
          have HMl : Hid (M.length = 64 * T) := Lib.hid (by have := ho.2.2.2.2; omega)
          have HH0 : Hid (Blk wk wr.heap.size 40 (startW.l.map WV).toArray) := Lib.hid ((Blk.new wr _ _).of (hbk.block _ (by simp)))
          have hhz := HH0.out.lt
          have HGk := Lib.hid hGk
          have HWk : Hid (Below (w.heap.size + 1) w1 wk) := Lib.hid ((HW.out.alloc (by have := HW.out.size; omega) _).trans (hbk.mono (by have := HW.out.size; simp; omega)))
          have hT8 : L + 8 = 64 * T := hT
          rw [hT8]
          clear hT8 ho hGk hbk HO HW
          go_wp2_with fail
          go_loopw [3, 6] (fun u hv wr => ∃ (t o gH c' : Nat) (s : W8), t ≤ T ∧ (t < T → o = 64 * t) ∧ u = .slice (some ⟨g, o, none⟩) (64 * (T - t)) c' ∧ 64 * (T - t) ≤ c' ∧ c' ≤ 9223372036854775807 ∧ hv = .slice (some ⟨gH, 0, none⟩) 8 8 ∧ Hid (Blk wr gH 40 (s.l.map WV).toArray) ∧ Hid (blocksF startW M T = blocksF s (M.drop (64 * t)) (T - t)) ∧ Hid (Below wk.heap.size wk wr)) (fun u _ _ => match u with | .slice _ n _ => n | _ => 0)
          case atStart => exact ⟨0, 0, wr.heap.size, c, startW, by omega, fun _ => rfl, rfl, hc0, hc1, rfl, HH0, Lib.hid rfl, Lib.hid (Below.refl _ _)⟩
          case round =>
            obtain ⟨t, o, gH, c', s, ht, ho, rfl, hcc, hcc2, rfl, HH, HBk, HW⟩ := hrel
            have hsW := HW.out.size
            by_cases hlt : t < T
            · obtain rfl := ho hlt
              clear ho
              have HOn := Lib.hid (Only.of_below HW.out : Only Empty wk _)
              have CB := Lib.hid (block_any _ gH g (64 * t) c' gk ck s ((M.drop (64 * t)).take 64) (by have := HMl.out; simp; omega) HH.out (fun j x hj => by
                have hj64 : j < 64 := by have h := (List.getElem?_eq_some_iff.1 hj).1; simp at h; omega
                rw [List.getElem?_take_of_lt hj64, List.getElem?_drop] at hj
                exact (HOn.out.cell (p := ⟨g, 64 * t + j, none⟩) hgz (fun h => h)).trans (HC.out _ x hj)) (by omega) (by omega) hcc2
                (fun j x hj => (HOn.out.cell (p := ⟨gk, j, none⟩) (got_cell (f := WV) HGk.out hj).2.2 (fun h => h)).trans (got_cell (f := WV) HGk.out hj).1)
                (Nat.lt_of_lt_of_le (got_cell (f := WV) HGk.out (show rootsL[0]? = some _ from rfl)).2.2 hsW) HGk.out.row.2.1 (by have := HGk.out.row.2.2.1; unfold maxLen at this; exact this))
              obtain ⟨n, hn⟩ : ∃ n, n = 64 * (T - t) := ⟨_, rfl⟩
              have HNn := Lib.hid hn
              have hn64 : 64 ≤ n := by omega
              rw [← hn] at hcc ⊢
              clear hn
              have hn64I : (64 : Int) ≤ (n : Int) := by omega
              have hc64 : 64 ≤ c' := by omega
              go_wp2_with fail
              refine CB.out.mono ?_
              rintro e w9 ⟨g9, rfl, hB9, hW9⟩
              have HB9 := Lib.hid hB9
              have HW9 := Lib.hid (HW.out.trans (hW9.mono hsW))
              clear hB9 hW9
              go_wp2
              refine ⟨⟨t + 1, if c' = 64 then 64 * t else 64 * t + 64, g9, c' - 64, mixF s ((M.drop (64 * t)).take 64), by omega, fun h => ?_, ?_, by have := HNn.out; omega, by omega, rfl, HB9, Lib.hid ?_, HW9⟩, ?_⟩
              · rw [if_neg (by have := HNn.out; omega)]
                omega
              · rw [show 64 * (T - (t + 1)) = n - 64 by have := HNn.out; omega]
                split <;> rfl
              · rw [HBk.out, show T - t = (T - (t + 1)) + 1 by omega, blocksF_next, List.drop_drop, show 64 * (t + 1) = 64 * t + 64 by omega]
              · show n - 64 < n
                omega
            · have htT : t = T := by omega
              subst htT
              have hz : 64 * (t - t) = 0 := by omega
              rw [hz]
              have HBe : Hid (blocksF startW M t = s) := Lib.hid (by have h := HBk.out; rw [Nat.sub_self] at h; exact h)
              clear hz ho
              rename World => wz
              go_wp2_with fail
              go_loopw [54] (fun i wr => ∃ q : Nat, q ≤ 8 ∧ i = .int .i64 (q : Int) ∧ Hid (Blk wr wz.heap.size 24 (rowQ s q)) ∧ Hid (Below wz.heap.size wz wr)) (fun i _ => 8 - (intOf i).toNat)
              case atStart => exact ⟨0, by omega, rfl, Lib.hid (Blk.new _ _ _), Lib.hid ((Below.refl _ _).alloc (Nat.le_refl _) _)⟩
              case round =>
                obtain ⟨q, hq, rfl, HQ, HWq⟩ := hrel
                by_cases hlt : q < 8
                · have hltI : (q : Int) < 8 := by omega
                  obtain ⟨x, hx⟩ : ∃ x, s.l[q]? = some x := ⟨_, List.getElem?_eq_getElem (by show q < 8; exact hlt)⟩
                  have HS := Lib.hid (rowQ_set s q x hx)
                  have cx : wr.cell? ⟨gH, q, none⟩ = some (.int .u32 (x.toNat : Int)) := by
                    have h := (HH.out.of (HWq.out.block _ HH.out.lt)).cell q
                    rw [row_get, hx] at h
                    exact h
                  have cc : ∀ j, j < 32 → ∃ u, wr.cell? ⟨wz.heap.size, j, none⟩ = some u := fun j hj => ⟨_, by rw [HQ.out.cell]; exact Array.getElem?_eq_getElem (by rw [rowQ_size _ _ hq]; exact hj)⟩
                  obtain ⟨u0, d0⟩ := cc (4 * q) (by omega)
                  obtain ⟨u1_, d1⟩ := cc (4 * q + 1) (by omega)
                  obtain ⟨u2_, d2⟩ := cc (4 * q + 2) (by omega)
                  obtain ⟨u3_, d3⟩ := cc (4 * q + 3) (by omega)
                  have f0 := HQ.out.frozen (4 * q)
                  have f1 := HQ.out.frozen (4 * q + 1)
                  have f2 := HQ.out.frozen (4 * q + 2)
                  have f3 := HQ.out.frozen (4 * q + 3)
                  have b4 : (q : Int) * 4 < 32 := by omega
                  clear hx cc
                  have e3 : B8 (byteOf x.toNat 3) = .int .u8 ((x.toNat : Int) / 16777216 % 256) := by
                    show Value.int .u8 _ = _
                    rw [byteOf_int, show (2 : Int) ^ (8 * 3) = 16777216 by decide]
                  have e2 : B8 (byteOf x.toNat 2) = .int .u8 ((x.toNat : Int) / 65536 % 256) := by
                    show Value.int .u8 _ = _
                    rw [byteOf_int, show (2 : Int) ^ (8 * 2) = 65536 by decide]
                  have e1 : B8 (byteOf x.toNat 1) = .int .u8 ((x.toNat : Int) / 256 % 256) := by
                    show Value.int .u8 _ = _
                    rw [byteOf_int, show (2 : Int) ^ (8 * 1) = 256 by decide]
                  have e0 : B8 (byteOf x.toNat 0) = .int .u8 ((x.toNat : Int) % 256) := by
                    show Value.int .u8 _ = _
                    rw [byteOf_int, show (2 : Int) ^ (8 * 0) = 1 by decide, Int.ediv_one]
                  have HE := Lib.hid (And.intro e3 (And.intro e2 (And.intro e1 e0)))
                  clear e3 e2 e1 e0
                  go_wp2_with fail
                  refine ⟨⟨q + 1, by omega, by go_num, Lib.hid ?_, Lib.hid ?_⟩, by simp [intOf]; omega⟩
                  · have h := (((HQ.out.set_ (4 * q) (B8 (byteOf x.toNat 3))).set_ (4 * q + 1) (B8 (byteOf x.toNat 2))).set_ (4 * q + 2) (B8 (byteOf x.toNat 1))).set_ (4 * q + 3) (B8 (byteOf x.toNat 0))
                    rw [HS.out, HE.out.1, HE.out.2.1, HE.out.2.2.1, HE.out.2.2.2] at h
                    exact h
                  · exact (((HWq.out.setCell (by simp) _).setCell (by simp) _).setCell (by simp) _).setCell (by simp) _
                · obtain rfl : q = 8 := by omega
                  have HSum : Hid (cellsB (digest s) = cellsB (sumF xs)) := Lib.hid (by
                    have h := sumF_blocks xs
                    rw [Hml.out, ← HM.out, HMl.out, Nat.mul_div_cancel_left _ (by decide : 0 < 64), HBe.out] at h
                    rw [h])
                  obtain ⟨D, hD⟩ : ∃ D, D = cellsB (digest s) := ⟨_, rfl⟩
                  have HQ8 : Hid (Blk wr wz.heap.size 24 D) := Lib.hid (by rw [hD, ← rowQ_all]; exact HQ.out)
                  have HDs : Hid (D.size = 32) := Lib.hid (by rw [hD, cellsB_len, digest_len])
                  have HD1 : Hid (D.all (·.oneCell') = true) := Lib.hid (by rw [hD]; exact cellsB_one _)
                  have HZD : Hid ((cellsB (List.replicate 32 0)).size = D.size) := Lib.hid (by rw [HDs.out]; rfl)
                  have HSD : Hid (D = cellsB (sumF xs)) := Lib.hid (by rw [hD]; exact HSum.out)
                  have HTall : Hid (Below (w.heap.size + 1) w1 wr) := Lib.hid (HWk.out.trans ((HW.out.trans (HWq.out.mono hsW)).mono (by have := HWk.out.size; omega)))
                  have HZr : Hid (Blk wr w.heap.size 24 (cellsB (List.replicate 32 0))) := Lib.hid (HZ.out.of (HTall.out.block _ (by omega)))
                  have HTot : Hid (Below w.heap.size w wr) := Lib.hid (HW1.out.trans (HTall.out.mono (by omega)))
                  have hgD : wr.heap[wz.heap.size]? = some (.cells D 24 (0, 0)) := HQ8.out
                  have hg5 : wr.heap[w.heap.size]? = some (.cells (cellsB (List.replicate 32 0)) 24 (0, 0)) := HZr.out
                  clear hD hw1
                  go_wp2_with (first | with_reducible refine wpList_load_row rfl 24 (.tmp 8) rfl wz.heap.size rfl 24 D (0, 0) _ hgD Tryd.underlying24 rfl (by rw [HDs.out]; exact info24) ?_ | with_reducible refine wpList_store_row rfl 24 (.tmp 2) (.tmp 86) rfl w.heap.size D rfl rfl 24 _ hg5 (by rw [HDs.out]; exact info24) HZD.out HD1.out ?_)
                  refine bodyPost_ret (v := .agg D) (results_cell_row Tryd.results8 _ _ w.heap.size 24 D (0, 0) _ rfl (setRow_heap _ _ _ _ _ _ hg5) Tryd.underlying24 rfl (by rw [HDs.out]; exact info24)) rfl ?_
                  exact ⟨by rw [HSD.out], below_setRow HTot.out (Nat.le_refl _) _⟩
    · have hp : L % 64 ≠ 56 := by rw [hL]; exact fun h => he ((padZ m k hk).1 h)
      have hpI : ¬ ((L : Int) % 64) = 56 := by omega
      have e0 : cellsB [0] = #[.int .u8 0] := rfl
      have hl := ByteSl.lit wr Empty [0] 1 rfl (fun h => h) (by decide)
      rw [e0] at hl
      have HL := Lib.hid hl
      have HO2 := Lib.hid (own_alloc HO.out (.cells #[.int .u8 0] 5))
      have h71 := HW.out.size
      have HW2 := Lib.hid (HW.out.alloc (by omega) (.cells #[.int .u8 0] 5))
      clear e0 hl
      have hL2 : L ≤ 1048641 := by
        have : endZ m < 64 := by unfold endZ; omega
        omega
      have hL1 : L ≠ 0 := by omega
      clear hL
      go_wp2_with (at_builtin; refine wpList_append_bytes rfl (.tmp 20) (.tmp 21) rfl (w.heap.size + 1) _ rfl L (xs ++ 128 :: List.replicate k 0) HO2.out (some ⟨wr.heap.size, 0, none⟩) 1 1 [0] Empty rfl HL.out (fun h => by cases h) (by omega) (by simp; omega) ?_)
      intro v9 w9 hown9 hg9 _
      obtain ⟨g9, c9, rfl, hb9⟩ := own_form hown9 (by omega)
      have Hown9 : Hid (w9.ownsRow (w.heap.size + 1) 5 1 (.slice (some ⟨g9, 0, none⟩) (m + 1 + (k + 1)) c9) (m + 1 + (k + 1)) ((xs ++ 128 :: List.replicate (k + 1) 0).map B8)) := Lib.hid (by
        rw [← pad_more, show m + 1 + (k + 1) = L + 1 by have := HLk.out; omega]
        simpa using hown9)
      have HW9 : Hid (Below (w.heap.size + 1) w1 w9) := Lib.hid (below_grown HW2.out (by simp; omega) hg9 (fun q hq => by simp [Value.ownBlock] at hq; omega))
      have HL9 : Hid (L + 1 = m + 1 + (k + 1)) := Lib.hid (by have := HLk.out; omega)
      clear hown9 hg9
      go_wp2
      go_roundw
      case rel => exact ⟨k + 1, g9, c9, by omega, by rw [HL9.out], hb9, Hown9, HW9⟩
      case measure =>
        have := HLk.out
        show _ < _
        simp only []
        omega
end Go.Proofs.YtpcjmicciccihaaDoor
