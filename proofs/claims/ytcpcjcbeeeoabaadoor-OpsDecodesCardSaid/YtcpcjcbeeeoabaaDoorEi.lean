/- The walk over ops.forms.read: which instruction stands at a place of any bytes. -/
import Derived.Test.YtcpcjcbeeeoabaaDoorEh
namespace Go.Proofs.YtcpcjcbeeeoabaaDoor
set_option maxRecDepth 100000
open Go.RowKit

def opN (xs : List UInt8) (k : Nat) : Nat := (xs[k]?.getD 0).toNat
/-- What A's bytes are worth. -/
def aW (f : Nat) (xs : List UInt8) (k : Nat) : Int := worthF (shapeF f).1 (shapeF f).2.1 (getV ((xs.drop (k + 1)).take (shapeF f).1))
def bW (f : Nat) (xs : List UInt8) (k : Nat) : Int := worthF (shapeF f).2.2.1 (shapeF f).2.2.2 (getV ((xs.drop (k + 1 + (shapeF f).1)).take (shapeF f).2.2.1))
def aN (f : Nat) (xs : List UInt8) (k : Nat) : Int := aW f xs k + if f = 7 then (k : Int) else 0
/-- What is wrong with the instruction there. -/
def readE' (f : Nat) (xs : List UInt8) (k : Nat) : Int := if f = 0 then 8 else if xs.length - k < lenF f then 6 else if f = 9 ∧ ¬ (aW f xs k = 8 ∨ aW f xs k = 10) then 8 else 0
def readE (xs : List UInt8) (k : Nat) : Int := readE' (formN (opN xs k)) xs k
/-- The instruction there. -/
def readR (xs : List UInt8) (k : Nat) : RawD := ⟨k, opN xs k, aN (formN (opN xs k)) xs k, bW (formN (opN xs k)) xs k⟩

theorem partOk_a (f : Nat) (h : f ≤ 9) : PartOk (shapeF f).1 (shapeF f).2.1 := by
  rcases (by omega : f = 0 ∨ f = 1 ∨ f = 2 ∨ f = 3 ∨ f = 4 ∨ f = 5 ∨ f = 6 ∨ f = 7 ∨ f = 8 ∨ f = 9) with rfl | rfl | rfl | rfl | rfl | rfl | rfl | rfl | rfl | rfl <;> exact ⟨by decide, by decide⟩
theorem partOk_b (f : Nat) (h : f ≤ 9) : PartOk (shapeF f).2.2.1 (shapeF f).2.2.2 := by
  rcases (by omega : f = 0 ∨ f = 1 ∨ f = 2 ∨ f = 3 ∨ f = 4 ∨ f = 5 ∨ f = 6 ∨ f = 7 ∨ f = 8 ∨ f = 9) with rfl | rfl | rfl | rfl | rfl | rfl | rfl | rfl | rfl | rfl <;> exact ⟨by decide, by decide⟩

theorem opN_lt (xs : List UInt8) (k : Nat) : opN xs k < 256 := UInt8.toNat_lt _
theorem worthF_bd (s : Nat) (b : Bool) (v : Nat) (h : s ≤ 2) : -32768 ≤ worthF s b v ∧ worthF s b v ≤ 65535 := by
  rcases (by omega : s = 0 ∨ s = 1 ∨ s = 2) with rfl | rfl | rfl
  · simp [worthF]
  · cases b
    · simp only [worthF]; simp; omega
    · simp only [worthF, sgn]; simp; split <;> omega
  · cases b
    · simp only [worthF]; simp; omega
    · simp only [worthF, sgn]; simp; split <;> omega

/-- What read answers. -/
def ReadOk (xs : List UInt8) (k : Nat) (w w' : World) (e : Ending) : Prop := e = .returned (.tuple #[(if readE xs k = 0 then readR xs k else zeroR).v, .int .i64 (readE xs k)]) ∧ Below w.heap.size w w'

theorem lenF_pos (f : Nat) (h : f ≤ 9) (h0 : f ≠ 0) : lenF f = 1 + (shapeF f).1 + (shapeF f).2.2.1 := by unfold lenF; rw [if_neg h0]

set_option maxHeartbeats 4000000 in
theorem read_any (g : Nat) (A : Option Addr) (n cap k : Nat) (xs : List UInt8) (w : World) (hT : Tables w) (hF : FormsAt w g) (hB : ByteSl w Empty A n cap xs) (hn : n ≤ 1048576) (hk : k < n) :
    Calls Tryd.prog 29 #[.pointer (some ⟨g, 0, none⟩), .slice A n cap, .int .i64 (k : Int)] w fun e w' => ReadOk xs k w w' e := by
  obtain ⟨ad, x, rfl, hbl, -, hx, hc⟩ := hB.at_ hk
  have hxo : opN xs k = x.toNat := by unfold opN; rw [hx]; rfl
  have hc0 : w.cell? (ad.add k) = some (.int .u8 (opN xs k : Int)) := by rw [hxo]; exact hc
  have hc1 : ∀ o, (w.alloc o).cell? (ad.add k) = some (.int .u8 (opN xs k : Int)) := fun o => by
    rw [((Below.refl w.heap.size w).alloc (Nat.le_refl _) o).cell (by rw [addr_add_block]; exact hbl)]
    exact hc0
  have hop := opN_lt xs k
  have HS : Hid (∀ W, Below w.heap.size w W → Calls Tryd.prog 18 #[.pointer (some ⟨g, 0, none⟩), .int .u8 (opN xs k : Int)] W fun e w' => e = .returned (.int .i64 (lenN (opN xs k) : Int)) ∧ Below W.heap.size W w') :=
    Lib.hid (fun W h => size_any g _ hop W (hT.below h) (hF.of (h.block g (Blk.lt hF))))
  have HFc : Hid (∀ W, Below w.heap.size w W → W.cell? ⟨g, opN xs k, none⟩ = some (.int .u8 (formN (opN xs k) : Int))) := Lib.hid (fun W h => FormsAt.cell (hF.of (h.block g (Blk.lt hF))) (opN xs k) hop)
  have HTc : Hid (∀ W, Below w.heap.size w W → Tables W) := Lib.hid (fun W h => hT.below h)
  have HBc : Hid (∀ W, Below w.heap.size w W → ByteSl W Empty (some ad) n cap xs) := Lib.hid (fun W h => hB.only (Only.of_below h) (fun _ _ h => h))
  have hfc := hF.cell (opN xs k) hop
  have hg : g < w.heap.size := Blk.lt hF
  have hp := hT.pos
  have hxl := hB.1
  have HE : Hid (readE xs k = readE' (formN (opN xs k)) xs k) := Lib.hid rfl
  have HR : Hid (readR xs k = ⟨k, opN xs k, aN (formN (opN xs k)) xs k, bW (formN (opN xs k)) xs k⟩) := Lib.hid rfl
  have hf9 := formN_le (opN xs k)
  have hl : lenN (opN xs k) = lenF (formN (opN xs k)) := rfl
  rw [hl] at HS
  clear hB hT hF hx hc hxo hc0 hl
  generalize formN (opN xs k) = f at *
  generalize opN xs k = o at *
  by_cases h0 : f = 0
  · have hE8 : Hid (readE xs k = 8) := Lib.hid (by rw [HE.out, h0]; rfl)
    subst h0
    clear HE HTc HBc hf9
    go_enter Tryd.func29, Tryd.ntmps29
    go_wp2
    refine bodyPost_ret (v := .tuple #[zeroR.v, .int .i64 8]) (by simp [results, Tryd.results29, go_sem, zeroR, RawD.v]) rfl ⟨?_, ?_⟩
    · rw [hE8.out]
      rfl
    · exact (Below.refl _ _).alloc (Nat.le_refl _) _
  have hf0 : ((f : Int) == 0) = false := by simp; omega
  have HW0 : Hid (Below w.heap.size w (w.alloc (.cells #[.int .i64 0, .int .u8 0, .int .i64 0, .int .i64 0] 36))) := Lib.hid ((Below.refl _ _).alloc (Nat.le_refl _) _)
  have hle3 := lenF_le f hf9
  by_cases hs : n - k < lenF f
  · have hE6 : Hid (readE xs k = 6) := Lib.hid (by rw [HE.out]; unfold readE'; rw [if_neg h0, if_pos (by omega)])
    clear HE HTc HBc h0
    go_enter Tryd.func29, Tryd.ntmps29
    go_wp2_with fail
    refine (HS.out _ HW0.out).mono ?_
    rintro e1 w1 ⟨rfl, hb1⟩
    have hblk : Blk w1 w.heap.size 36 #[.int .i64 0, .int .u8 0, .int .i64 0, .int .i64 0] := (Blk.new w 36 _).of (hb1.block w.heap.size (by simp))
    have c0 := hblk.cell 0
    have c1 := hblk.cell 1
    have c2 := hblk.cell 2
    have c3 := hblk.cell 3
    have f0 := hblk.frozen 0
    have f1 := hblk.frozen 1
    have f2 := hblk.frozen 2
    have f3 := hblk.frozen 3
    simp at c0 c1 c2 c3
    have Hb1 := Lib.hid (HW0.out.trans (hb1.mono HW0.out.size))
    have hlt1 := hblk.lt
    clear hb1 hblk
    have hd : decide ((n : Int) - (k : Int) < (lenF f : Int)) = true := by simp; omega
    go_wp2
    refine bodyPost_ret (v := .tuple #[zeroR.v, .int .i64 6]) (by simp [results, Tryd.results29, go_sem, zeroR, RawD.v, c0, c1, c2, c3]) rfl ⟨?_, ?_⟩
    · rw [hE6.out]
      rfl
    · exact ((((Hb1.out.setCell (by simp) _).setCell (by simp) _).setCell (by simp) _).setCell (by simp) _)
  have hlp := lenF_pos f hf9 h0
  have HG1 : Hid (∀ W, Below w.heap.size w W → Calls Tryd.prog 33 #[.agg #[.int .i64 ((shapeF f).1 : Int), .bool (shapeF f).2.1], .slice (some ad) n cap, .int .i64 ((k : Int) + 1)] W fun e w' => e = .returned (.int .i64 (aW f xs k)) ∧ Below W.heap.size W w') := Lib.hid (fun W h => by
    have := get_part (shapeF f).1 (shapeF f).2.1 (some ad) n cap (k + 1) xs W (partOk_a f hf9) (HBc.out W h) hn (by omega)
    rwa [show ((k + 1 : Nat) : Int) = (k : Int) + 1 by omega] at this)
  have HG2 : Hid (∀ W, Below w.heap.size w W → Calls Tryd.prog 33 #[.agg #[.int .i64 ((shapeF f).2.2.1 : Int), .bool (shapeF f).2.2.2], .slice (some ad) n cap, .int .i64 ((k : Int) + 1 + ((shapeF f).1 : Int))] W fun e w' => e = .returned (.int .i64 (bW f xs k)) ∧ Below W.heap.size W w') := Lib.hid (fun W h => by
    have := get_part (shapeF f).2.2.1 (shapeF f).2.2.2 (some ad) n cap (k + 1 + (shapeF f).1) xs W (partOk_b f hf9) (HBc.out W h) hn (by omega)
    rwa [show ((k + 1 + (shapeF f).1 : Nat) : Int) = (k : Int) + 1 + ((shapeF f).1 : Int) by omega] at this)
  have hE2 : readE xs k = if f = 9 ∧ ¬ (aW f xs k = 8 ∨ aW f xs k = 10) then 8 else 0 := by rw [HE.out]; unfold readE'; rw [if_neg h0, if_neg (by omega)]
  have hab : -32768 ≤ aW f xs k ∧ aW f xs k ≤ 65535 := worthF_bd _ _ _ (shapeF_le f hf9).1
  have hAN : aN f xs k = aW f xs k + if f = 7 then (k : Int) else 0 := rfl
  obtain ⟨z1, z2⟩ := shapeF_le f hf9
  have HSh : Hid (∀ W, Below w.heap.size w W → W.cell? ⟨1, f * 4, none⟩ = some (.int .i64 ((shapeF f).1 : Int)) ∧ W.cell? ⟨1, f * 4 + 1, none⟩ = some (.bool (shapeF f).2.1) ∧
    W.cell? ⟨1, f * 4 + 2, none⟩ = some (.int .i64 ((shapeF f).2.2.1 : Int)) ∧ W.cell? ⟨1, f * 4 + 3, none⟩ = some (.bool (shapeF f).2.2.2)) := Lib.hid (fun W h => (HTc.out W h).shape f hf9)
  clear HE HTc HBc hlp
  generalize aW f xs k = av at *
  generalize bW f xs k = bv at *
  rw [hAN] at HR
  clear hAN
  generalize (shapeF f).1 = sa at *
  generalize (shapeF f).2.1 = ba at *
  generalize (shapeF f).2.2.1 = sb at *
  generalize (shapeF f).2.2.2 = bb at *
  have hd : decide ((n : Int) - (k : Int) < (lenF f : Int)) = false := by simp; omega
  have HE2 := Lib.hid hE2
  have Hh0 := Lib.hid h0
  clear hE2 h0 hs
  go_enter Tryd.func29, Tryd.ntmps29
  go_wp2_with fail
  refine (HS.out _ HW0.out).mono ?_
  rintro e1 w1 ⟨rfl, hb1⟩
  have hblk1 : Blk w1 w.heap.size 36 #[.int .i64 0, .int .u8 0, .int .i64 0, .int .i64 0] := (Blk.new w 36 _).of (hb1.block w.heap.size (by simp))
  have Hb1 := Lib.hid (HW0.out.trans (hb1.mono HW0.out.size))
  have hlt1 := hblk1.lt
  have hfc1 := HFc.out w1 Hb1.out
  obtain ⟨s0, s1, s2, s3⟩ := HSh.out w1 Hb1.out
  have hp1 : 1 < w1.heap.size := by omega
  have hg1 : g < w1.heap.size := by omega
  have HB1 := Lib.hid hblk1
  clear hb1 hblk1 hc1 hfc
  go_wp2_with fail
  have Hb1' : Hid (Below w.heap.size w (w1.alloc (.cells #[.int .i64 (sa : Int), .bool ba, .int .i64 (sb : Int), .bool bb] 58))) := Lib.hid (Hb1.out.alloc Hb1.out.size _)
  refine (HG1.out _ Hb1'.out).mono ?_
  rintro e2 w2 ⟨rfl, hb2⟩
  have hsh2 : Blk w2 w1.heap.size 58 #[.int .i64 (sa : Int), .bool ba, .int .i64 (sb : Int), .bool bb] := (Blk.new w1 58 _).of (hb2.block w1.heap.size (by simp))
  have HB2 : Hid (Blk w2 w.heap.size 36 #[.int .i64 0, .int .u8 0, .int .i64 0, .int .i64 0]) := Lib.hid ((HB1.out.alloc _).of (hb2.block w.heap.size (by simp; omega)))
  have Hb2 := Lib.hid (Hb1'.out.trans (hb2.mono Hb1'.out.size))
  have q0 := hsh2.cell 0
  have q1 := hsh2.cell 1
  have q2 := hsh2.cell 2
  have q3 := hsh2.cell 3
  simp at q0 q1 q2 q3
  clear hsh2 hb2 s0 s1 s2 s3 hfc1
  go_wp2_with fail
  refine (HG2.out _ Hb2.out).mono ?_
  rintro e3 w3 ⟨rfl, hb3⟩
  have hblk3 : Blk w3 w.heap.size 36 #[.int .i64 0, .int .u8 0, .int .i64 0, .int .i64 0] := HB2.out.of (hb3.block w.heap.size HB2.out.lt)
  have Hb3 := Lib.hid (Hb2.out.trans (hb3.mono Hb2.out.size))
  have c0 := hblk3.cell 0
  have c1 := hblk3.cell 1
  have c2 := hblk3.cell 2
  have c3 := hblk3.cell 3
  have f0 := hblk3.frozen 0
  have f1 := hblk3.frozen 1
  have f2 := hblk3.frozen 2
  have f3 := hblk3.frozen 3
  simp at c0 c1 c2 c3
  have hfc3 := HFc.out w3 Hb3.out
  have hlt3 := hblk3.lt
  have hg3 : g < w3.heap.size := by have := Hb3.out.size; omega
  clear hblk3 hb3 q0 q1 q2 q3
  by_cases h7 : f = 7
  · subst h7
    have hfc3 : w3.cell? ⟨g, o, none⟩ = some (.int .u8 7) := hfc3
    go_wp2
    refine bodyPost_ret (v := .tuple #[(readR xs k).v, .int .i64 0]) (by rw [HR.out]; simp [results, Tryd.results29, go_sem, RawD.v, c0, c1, c2, c3]) rfl ⟨?_, ?_⟩
    · have he : readE xs k = 0 := by rw [HE2.out]; rfl
      rw [he, if_pos rfl]
    · exact ((((Hb3.out.setCell (by simp) _).setCell (by simp) _).setCell (by simp) _).setCell (by simp) _)
  by_cases h9 : f = 9
  · subst h9
    have hfc3 : w3.cell? ⟨g, o, none⟩ = some (.int .u8 9) := hfc3
    by_cases hkd : av = 8 ∨ av = 10
    · have hkt : decide (av = 8 ∨ av = 10) = true := decide_eq_true hkd
      have HK : Hid (∀ W, Calls Tryd.prog 34 #[.int .i64 av] W fun e w' => e = .returned (.bool true) ∧ W = w') := Lib.hid (fun W => by have := isKind_any av W; rwa [hkt] at this)
      have he : Hid (readE xs k = 0) := Lib.hid (by rw [HE2.out, if_neg (fun h => h.2 hkd)])
      clear hkd hkt
      go_wp2_with fail
      refine (HK.out _).mono ?_
      rintro e4 w4 ⟨rfl, rfl⟩
      go_wp2
      refine bodyPost_ret (v := .tuple #[(readR xs k).v, .int .i64 0]) (by rw [HR.out]; simp [results, Tryd.results29, go_sem, RawD.v, c0, c1, c2, c3]) rfl ⟨?_, ?_⟩
      · rw [he.out, if_pos rfl]
      · exact ((((Hb3.out.setCell (by simp) _).setCell (by simp) _).setCell (by simp) _).setCell (by simp) _)
    · have hkt : decide (av = 8 ∨ av = 10) = false := decide_eq_false hkd
      have HK : Hid (∀ W, Calls Tryd.prog 34 #[.int .i64 av] W fun e w' => e = .returned (.bool false) ∧ W = w') := Lib.hid (fun W => by have := isKind_any av W; rwa [hkt] at this)
      have he : Hid (readE xs k = 8) := Lib.hid (by rw [HE2.out, if_pos ⟨rfl, hkd⟩])
      clear hkd hkt
      go_wp2_with fail
      refine (HK.out _).mono ?_
      rintro e4 w4 ⟨rfl, rfl⟩
      go_wp2
      refine bodyPost_ret (v := .tuple #[zeroR.v, .int .i64 8]) (by simp [results, Tryd.results29, go_sem, zeroR, RawD.v, c0, c1, c2, c3]) rfl ⟨?_, ?_⟩
      · rw [he.out]
        rfl
      · exact ((((Hb3.out.setCell (by simp) _).setCell (by simp) _).setCell (by simp) _).setCell (by simp) _)
  · have h7d : ((f : Int) == 7) = false := by simp; omega
    have h9d : ((f : Int) == 9) = false := by simp; omega
    have he : Hid (readE xs k = 0) := Lib.hid (by rw [HE2.out, if_neg (fun h => h9 h.1)])
    have HR2 : Hid (readR xs k = ⟨k, o, av, bv⟩) := Lib.hid (by rw [HR.out, if_neg h7, Int.add_zero])
    clear h7 h9
    go_wp2
    refine bodyPost_ret (v := .tuple #[(readR xs k).v, .int .i64 0]) (by rw [HR2.out]; simp [results, Tryd.results29, go_sem, RawD.v, c0, c1, c2, c3]) rfl ⟨?_, ?_⟩
    · rw [he.out, if_pos rfl]
    · exact ((((Hb3.out.setCell (by simp) _).setCell (by simp) _).setCell (by simp) _).setCell (by simp) _)

end Go.Proofs.YtcpcjcbeeeoabaaDoor
