/- The walk over the reader's record. -/
import Derived.Test.YtidcgobnhfganaaHc
namespace Go.Proofs.Ytidcgobnhfganaa
open Go.RowKit

/-- A record as a value, whose blob is a row made since base. -/
def RecIs (base : Nat) (k t c : Int) (key blob : List UInt8) (v : Value) (w : World) : Prop :=
  ∃ A n cap, v = .agg #[.int .i64 k, .int .u32 t, .string (strB key), .slice A n cap, .int .i64 c] ∧ blob.length = n ∧ w.ownsRow base 5 1 (.slice A n cap) n (blob.map B8)
def RetRec (base : Nat) (k t c : Int) (key blob : List UInt8) (e : Ending) (w : World) : Prop := ∃ v, e = .returned v ∧ RecIs base k t c key blob v w

theorem ret8_slice {base k : Nat} {zs : List UInt8} {e : Ending} {w : World} (h : Ret8 base k zs e w) : ∃ A cap, e = .returned (.slice A k cap) ∧ w.ownsRow base 5 1 (.slice A k cap) k (zs.map B8) ∧ ByteSl w Empty A k cap zs := by
  obtain ⟨u, rfl, ho⟩ := h
  obtain ⟨A, cap, rfl, hb, -⟩ := ByteSl.of_own (S := Empty) ho (fun _ _ _ h => h)
  exact ⟨A, cap, rfl, ho, hb⟩

set_option maxHeartbeats 2000000 in
theorem record_any (g : Nat) (ad : Addr) (n cap : Nat) (k t c : Int) (a b : Nat) (xs : List UInt8) (w : World) (hR : Rd w g (some ad) n cap 11) (hB : ByteSl w (· = g) (some ad) n cap xs) (hm : n ≤ 1048576) (ha : 11 + a + b < n) :
    Calls Try.prog 26 #[.pointer (some ⟨g, 0, none⟩), .agg #[.int .i64 k, .int .u32 t, .int .i64 (a : Int), .int .i64 (b : Int), .int .i64 c]] w fun e w' =>
      RetRec w.heap.size k t c ((xs.drop 11).take a) ((xs.drop (11 + a)).take b) e w' ∧ Only (· = g) w w' := by
  have hlt : g < w.heap.size := hR.lt
  have HR := Lib.hid hR
  have HBy := Lib.hid hB
  have N1 : Hid (∀ W, Rd W g (some ad) n cap 11 → ByteSl W (· = g) (some ad) n cap xs → Calls Try.prog 32 #[.pointer (some ⟨g, 0, none⟩), .int .i64 (a : Int)] W fun e W' => Ret8 W.heap.size a ((xs.drop 11).take a) e W' ∧ Rd W' g (some ad) n cap (11 + a) ∧ Only (· = g) W W') := Lib.hid fun W hR hB =>
    rbytes_any g ad n cap 11 a xs W hR hB hm (by omega)
  have N2 : Hid (∀ W, Rd W g (some ad) n cap (11 + a) → ByteSl W (· = g) (some ad) n cap xs → Calls Try.prog 32 #[.pointer (some ⟨g, 0, none⟩), .int .i64 (b : Int)] W fun e W' => Ret8 W.heap.size b ((xs.drop (11 + a)).take b) e W' ∧ Rd W' g (some ad) n cap (11 + a + b) ∧ Only (· = g) W W') := Lib.hid fun W hR hB =>
    rbytes_any g ad n cap (11 + a) b xs W hR hB hm (by omega)
  have hO0 := ((Only.refl (· = g) w).alloc (.cells #[.int .i64 k, .int .u32 t, .int .i64 (a : Int), .int .i64 (b : Int), .int .i64 c] 61)).alloc (.cells #[.int .i64 0, .int .u32 0, .string ⟨#[]⟩, .slice none 0 0, .int .i64 0] 28)
  have hR0 : Rd _ g (some ad) n cap 11 := (HR.out.alloc (.cells #[.int .i64 k, .int .u32 t, .int .i64 (a : Int), .int .i64 (b : Int), .int .i64 c] 61)).alloc (.cells #[.int .i64 0, .int .u32 0, .string ⟨#[]⟩, .slice none 0 0, .int .i64 0] 28)
  have HO0 := Lib.hid hO0
  have HR0 := Lib.hid hR0
  have HB0 := Lib.hid (HBy.out.only HO0.out (fun _ _ h => h))
  have hlen : ((xs.drop 11).take a).length = a := by have := hB.1; simp; omega
  have hlen2 : ((xs.drop (11 + a)).take b).length = b := by have := hB.1; simp; omega
  have Hlen := Lib.hid hlen
  have Hlen2 := Lib.hid hlen2
  clear hR hB hO0 hR0 hlen hlen2
  go_enter Try.func26, Try.ntmps26
  go_wp2_with fail
  refine (N1.out _ HR0.out HB0.out).mono ?_
  rintro x1 w1 ⟨h8, hR1, hO1⟩
  obtain ⟨A1, cap1, rfl, hown1, hBk⟩ := ret8_slice h8
  have hcv := conv_bytes hBk
  have hbox : Blk w1 w.heap.size 61 #[.int .i64 k, .int .u32 t, .int .i64 (a : Int), .int .i64 (b : Int), .int .i64 c] := hO1.blk ((Blk.new w 61 #[.int .i64 k, .int .u32 t, .int .i64 (a : Int), .int .i64 (b : Int), .int .i64 c]).alloc _) (by omega)
  have hres : Blk w1 (w.heap.size + 1) 28 #[.int .i64 0, .int .u32 0, .string ⟨#[]⟩, .slice none 0 0, .int .i64 0] := hO1.blk (by have h := Blk.new (w.alloc (.cells #[.int .i64 k, .int .u32 t, .int .i64 (a : Int), .int .i64 (b : Int), .int .i64 c] 61)) 28 #[.int .i64 0, .int .u32 0, .string ⟨#[]⟩, .slice none 0 0, .int .i64 0]; simpa using h) (by omega)
  have Hbox := Lib.hid hbox
  have Hres := Lib.hid hres
  have HR1 := Lib.hid hR1
  have HO1 := Lib.hid (HO0.out.trans hO1)
  have HB1 := Lib.hid (HBy.out.only HO1.out (fun _ _ h => h))
  clear hbox hres hR1 hO1 h8 hown1 hBk
  go_wp2_with fail
  clear hcv
  have HS : Hid (∀ W, Only (fun q => q = g ∨ q = w.heap.size + 1) w1 W → W.cell? ⟨w.heap.size, 0, none⟩ = some (.int .i64 k) ∧ W.cell? ⟨w.heap.size, 1, none⟩ = some (.int .u32 t) ∧ W.cell? ⟨w.heap.size, 3, none⟩ = some (.int .i64 (b : Int)) ∧ W.cell? ⟨w.heap.size, 4, none⟩ = some (.int .i64 c)) := Lib.hid (fun W h => by
    have hb := h.blk Hbox.out (by omega)
    exact ⟨hb.cell 0, hb.cell 1, hb.cell 3, hb.cell 4⟩)
  have hD : Only (fun q => q = g ∨ q = w.heap.size + 1) w1 w1.drew := (Only.refl _ _).drew
  have hs1 := HS.out _ hD
  have HRd : Hid (Rd w1.drew g (some ad) n cap (11 + a)) := Lib.hid (Blk.drew HR1.out)
  have HBd : Hid (ByteSl w1.drew (· = g) (some ad) n cap xs) := Lib.hid (HB1.out.only ((Only.refl (· = g) w1).drew) (fun _ _ h => h))
  have HRes : Hid (∀ W, Only (· = g) w1.drew W → Blk W (w.heap.size + 1) 28 #[.int .i64 0, .int .u32 0, .string ⟨#[]⟩, .slice none 0 0, .int .i64 0]) := Lib.hid (fun W h => h.blk Hres.out.drew (by omega))
  have HD := Lib.hid hD
  clear hD
  go_region_held3 (fun W => W.cell? ⟨w.heap.size, 0, none⟩ = some (.int .i64 k) ∧ W.cell? ⟨w.heap.size, 1, none⟩ = some (.int .u32 t) ∧ W.cell? ⟨w.heap.size, 3, none⟩ = some (.int .i64 (b : Int)) ∧ W.cell? ⟨w.heap.size, 4, none⟩ = some (.int .i64 c)) (first | with_reducible exact hs1 | with_reducible exact hs10 | ((with_reducible refine HS.out _ ?_); exact (((((hT10.setCell (p := ⟨w.heap.size + 1, 0, none⟩) (Or.inl (Or.inr rfl)) _).setCell (p := ⟨w.heap.size + 1, 1, none⟩) (Or.inl (Or.inr rfl)) _).setCell (p := ⟨w.heap.size + 1, 2, none⟩) (Or.inl (Or.inr rfl)) _).setCell (p := ⟨w.heap.size + 1, 3, none⟩) (Or.inl (Or.inr rfl)) _).setCell (p := ⟨w.heap.size + 1, 4, none⟩) (Or.inl (Or.inr rfl)) _)))
    ((go_at_call 32; (with_reducible refine (N2.out _ HRd.out HBd.out).mono ?_); rintro e10 w10 ⟨h10, hR10, hO10⟩; obtain ⟨A2, cap2, rfl, hown2, hB2⟩ := ret8_slice h10; have hT10 := HD.out.trans (hO10.mono (fun _ _ h => Or.inl h)); have hs10 := HS.out _ hT10; have hr10 := HRes.out _ hO10; have c0 := hr10.cell 0; have c1 := hr10.cell 1; have c2 := hr10.cell 2; have c3 := hr10.cell 3; have c4 := hr10.cell 4; have f0 := hr10.frozen 0; have f1 := hr10.frozen 1; have f2 := hr10.frozen 2; have f3 := hr10.frozen 3; have f4 := hr10.frozen 4; simp at c0 c1 c2 c3 c4))
  go_wp2
  have hz1 : w.heap.size + 1 < w1.heap.size := Hres.out.lt
  have hT : Only (· = w.heap.size + 1) w10 (((((w10.setCell ⟨w.heap.size + 1, 0, none⟩ (.int .i64 k)).setCell ⟨w.heap.size + 1, 1, none⟩ (.int .u32 t)).setCell ⟨w.heap.size + 1, 2, none⟩ (.string (strB ((xs.drop 11).take a)))).setCell ⟨w.heap.size + 1, 3, none⟩ (.slice A2 b cap2)).setCell ⟨w.heap.size + 1, 4, none⟩ (.int .i64 c)) :=
    (((((Only.refl (· = w.heap.size + 1) w10).setCell (p := ⟨w.heap.size + 1, 0, none⟩) (Or.inl rfl) _).setCell (p := ⟨w.heap.size + 1, 1, none⟩) (Or.inl rfl) _).setCell (p := ⟨w.heap.size + 1, 2, none⟩) (Or.inl rfl) _).setCell (p := ⟨w.heap.size + 1, 3, none⟩) (Or.inl rfl) _).setCell (p := ⟨w.heap.size + 1, 4, none⟩) (Or.inl rfl) _
  refine bodyPost_ret (v := .agg #[.int .i64 k, .int .u32 t, .string (strB ((xs.drop 11).take a)), .slice A2 b cap2, .int .i64 c]) (by simp [results, Try.results26, go_sem, c0, c1, c2, c3, c4]) rfl ⟨?_, ?_⟩
  · have h1 : w1.drew.heap.size = w1.heap.size := rfl
    exact ⟨_, rfl, A2, b, cap2, rfl, Hlen2.out, own_base (own_only hown2 hT (fun q h2 _ => by omega)) (by omega)⟩
  · refine (HO1.out.drew.trans hO10).trans' hT (fun q h1 h2 => ?_)
    omega

end Go.Proofs.Ytidcgobnhfganaa
