/- The walk over the law's 'do': the same act done to both flashes. -/
import Derived.Test.YtaepdmifenkhcaaP1
import Derived.Deep.RegionHeld
namespace Go.Proofs.Ytaepdmifenkhcaa
open Go.RowKit

/-- Both flashes, the act's own block, and its bytes. -/
structure St (w : World) (p c e p' c' e' bx : Nat) (box : Array Value) (A : Option Addr) (n cap : Nat) (xs : List UInt8) (f g : Fl) (W : World) : Prop where
  ff : FlashAt W p c e f
  gg : RefAt W p' c' e' g
  bb : Blk W bx 38 box
  src : ByteSl W (Six p c e p' c' e') A n cap xs
  on : Only (Six p c e p' c' e') w W
  sep : ∀ k, Three p c e k → ¬ Three p' c' e' k

section
variable {w W w' : World} {p c e p' c' e' bx n cap : Nat} {box : Array Value} {A : Option Addr} {xs : List UInt8} {f g f' g' : Fl}
theorem St.nf (h : St w p c e p' c' e' bx box A n cap xs f g W) : ¬ Three p c e bx := by
  have h1 := h.bb.ne_ h.ff.hd (by decide)
  have h2 := h.bb.ne_ h.ff.ce (by decide)
  have h3 := h.bb.ne_ h.ff.er (by decide)
  unfold Three
  omega
theorem St.ng (h : St w p c e p' c' e' bx box A n cap xs f g W) : ¬ Three p' c' e' bx := by
  have h1 := h.bb.ne_ h.gg.hd (by decide)
  have h2 := h.bb.ne_ h.gg.ce (by decide)
  have h3 := h.bb.ne_ h.gg.er (by decide)
  unfold Three
  omega
theorem St.stepF (h : St w p c e p' c' e' bx box A n cap xs f g W) (hf : FlashAt w' p c e f') (ho : Only (Three p c e) W w') : St w p c e p' c' e' bx box A n cap xs f' g w' :=
  ⟨hf, h.gg.of ho (fun h1 => h.sep _ h1 (Or.inl rfl)) (fun h1 => h.sep _ h1 (Or.inr (Or.inl rfl))) (fun h1 => h.sep _ h1 (Or.inr (Or.inr rfl))), ho.blk h.bb h.nf, h.src.only ho (fun _ _ hi => Or.inl hi), h.on.trans (ho.mono (fun _ _ hi => Or.inl hi)), h.sep⟩
theorem St.stepG (h : St w p c e p' c' e' bx box A n cap xs f g W) (hg : RefAt w' p' c' e' g') (ho : Only (Three p' c' e') W w') : St w p c e p' c' e' bx box A n cap xs f g' w' :=
  ⟨h.ff.of ho (fun h1 => h.sep _ (Or.inl rfl) h1) (fun h1 => h.sep _ (Or.inr (Or.inl rfl)) h1) (fun h1 => h.sep _ (Or.inr (Or.inr rfl)) h1), hg, ho.blk h.bb h.ng, h.src.only ho (fun _ _ hi => Or.inr hi), h.on.trans (ho.mono (fun _ _ hi => Or.inr hi)), h.sep⟩
theorem St.same (h : St w p c e p' c' e' bx box A n cap xs f g W) (ho : Only Empty W w') : St w p c e p' c' e' bx box A n cap xs f g w' :=
  h.stepF (h.ff.of ho (fun h => h) (fun h => h) (fun h => h)) (ho.mono (fun _ _ hi => hi.elim))
theorem St.srcF (h : St w p c e p' c' e' bx box A n cap xs f g W) : ByteSl W (Three p c e) A n cap xs := h.src.mono (fun _ _ hi => Or.inl hi)
theorem St.srcG (h : St w p c e p' c' e' bx box A n cap xs f g W) : ByteSl W (Three p' c' e') A n cap xs := h.src.mono (fun _ _ hi => Or.inr hi)
end

/-- An act's cells. -/
def actBox (K a m : Int) (A : Option Addr) (n cap : Nat) (k : Int) (mk : UInt8) : Array Value := #[.int .u8 K, .int .i64 a, .int .i64 m, .slice A n cap, .int .i64 k, B8 mk]

/-- What 'do' leaves: true, and flashes that go together, of the same shape. -/
def DoOk (w w' : World) (p c e p' c' e' : Nat) (f : Fl) (e1 : Ending) : Prop :=
  e1 = .returned (.bool true) ∧ ∃ f' g', Rel f' g' ∧ f'.S = f.S ∧ f'.Z = f.Z ∧ f'.L = f.L ∧ FlashAt w' p c e f' ∧ RefAt w' p' c' e' g' ∧ Only (Six p c e p' c' e') w w'

theorem St.done {w w' : World} {p c e p' c' e' bx n cap : Nat} {box : Array Value} {A : Option Addr} {xs : List UInt8} {f f' g' : Fl} (h : St w p c e p' c' e' bx box A n cap xs f' g' w') (hr : Rel f' g') (h1 : f'.S = f.S) (h2 : f'.Z = f.Z) (h3 : f'.L = f.L) :
    DoOk w w' p c e p' c' e' f (.returned (.bool true)) := ⟨rfl, f', g', hr, h1, h2, h3, h.ff, h.gg, h.on⟩

theorem St.start {w : World} {p c e p' c' e' n cap : Nat} {box : Array Value} {A : Option Addr} {xs : List UInt8} {f g : Fl} (hf : FlashAt w p c e f) (hg : RefAt w p' c' e' g) (hs : ByteSl w (Six p c e p' c' e') A n cap xs)
    (sep : ∀ k, Three p c e k → ¬ Three p' c' e' k) : St w p c e p' c' e' w.heap.size box A n cap xs f g (w.alloc (.cells box 38)) :=
  ⟨hf.of ((Only.refl Empty w).alloc _) (fun h => h) (fun h => h) (fun h => h), hg.of ((Only.refl Empty w).alloc _) (fun h => h) (fun h => h) (fun h => h), Blk.new _ _ _,
    hs.only ((Only.refl Empty w).alloc _) (fun _ _ h => h.elim), (Only.refl _ w).alloc _, sep⟩

set_option maxRecDepth 100000 in
set_option maxHeartbeats 4000000 in
theorem do_program (p c e p' c' e' n cap : Nat) (f g : Fl) (K a m k : Int) (mk : UInt8) (A : Option Addr) (xs : List UInt8) (w : World) (hr : Rel f g) (hf : FlashAt w p c e f) (hg : RefAt w p' c' e' g) (hs : ByteSl w (Six p c e p' c' e') A n cap xs)
    (sep : ∀ k, Three p c e k → ¬ Three p' c' e' k) (K1 : 0 ≤ K) (K2 : K ≤ 255) (hK : K % 5 = 0) (a2 : a ≤ 9223372036854775807) :
    Calls Try.prog 13 #[.pointer (some ⟨p, 0, none⟩), .pointer (some ⟨p', 0, none⟩), .agg (actBox K a m A n cap k mk)] w fun e1 w' => DoOk w w' p c e p' c' e' f e1 := by
  obtain ⟨cd, f', g', hr', s1, s2, s3, hpF, hpG⟩ := prog_pair p c e p' c' e' f g a n cap A xs hr a2 (Nat.le_trans hs.2.1 hs.2.2.1)
  have h0 : St w p c e p' c' e' w.heap.size (actBox K a m A n cap k mk) A n cap xs f g (w.alloc (.cells (actBox K a m A n cap k mk) 38)) := St.start hf hg hs sep
  have hF : ∀ gx W, St w p c e p' c' e' w.heap.size (actBox K a m A n cap k mk) A n cap xs f gx W → Calls Try.prog 20 #[.pointer (some ⟨p, 0, none⟩), .int .i64 a, .slice A n cap] W fun e1 w' => e1 = .returned (.int .i64 cd) ∧ St w p c e p' c' e' w.heap.size (actBox K a m A n cap k mk) A n cap xs f' gx w' :=
    fun gx W hS => (hpF W hS.ff hS.srcF).mono fun e1 w' ⟨he, h1, h2⟩ => ⟨he, hS.stepF h1 h2⟩
  have hG : ∀ fx W, St w p c e p' c' e' w.heap.size (actBox K a m A n cap k mk) A n cap xs fx g W → Calls Try.prog 25 #[.pointer (some ⟨p', 0, none⟩), .int .i64 a, .slice A n cap] W fun e1 w' => e1 = .returned (.int .i64 cd) ∧ St w p c e p' c' e' w.heap.size (actBox K a m A n cap k mk) A n cap xs fx g' w' :=
    fun fx W hS => (hpG W hS.gg hS.srcG).mono fun e1 w' ⟨he, h1, h2⟩ => ⟨he, hS.stepG h1 h2⟩
  have hbox : ∀ fx gx W, St w p c e p' c' e' w.heap.size (actBox K a m A n cap k mk) A n cap xs fx gx W → W.cell? ⟨w.heap.size, 1, none⟩ = some (.int .i64 a) ∧ W.cell? ⟨w.heap.size, 3, none⟩ = some (.slice A n cap) :=
    fun fx gx W hS => ⟨hS.bb.cell 1, hS.bb.cell 3⟩
  have hD : St w p c e p' c' e' w.heap.size (actBox K a m A n cap k mk) A n cap xs f g (w.alloc (.cells (actBox K a m A n cap k mk) 38)).drew := h0.same ((Only.refl Empty _).drew)
  have HF := Lib.hid hF
  have HG := Lib.hid hG
  have Hbox := Lib.hid hbox
  have Hr := Lib.hid hr'
  have Hs := Lib.hid (And.intro s1 (And.intro s2 s3))
  have hb0 : (K % 5 == 0) = true := by simp [hK]
  clear hpF hpG hF hG hbox hr' s1 s2 s3 hr hf hg hs sep h0 hK
  unfold actBox at *
  go_enter Try.func13, Try.ntmps13
  go_wp2_with fail
  go_region_held (fun W => W.cell? ⟨w.heap.size, 1, none⟩ = some (.int .i64 a) ∧ W.cell? ⟨w.heap.size, 3, none⟩ = some (.slice A n cap)) (first | exact Hbox.out _ _ _ hD | exact Hbox.out _ _ _ hS1 | exact Hbox.out _ _ _ hS2)
    (first | (go_at_call 20; (first | ((with_reducible refine (HF.out g _ hD).mono ?_); rintro e1 w7 ⟨rfl, hS1⟩) | ((with_reducible refine (HF.out g' _ hS2).mono ?_); rintro e1 w7 ⟨rfl, hS1⟩))) | (go_at_call 25; (first | ((with_reducible refine (HG.out f _ hD).mono ?_); rintro e1 w7 ⟨rfl, hS2⟩) | ((with_reducible refine (HG.out f' _ hS1).mono ?_); rintro e1 w7 ⟨rfl, hS2⟩))))
  go_wp2
  go_ret
  exact hS2.done Hr.out Hs.out.1 Hs.out.2.1 Hs.out.2.2

set_option maxRecDepth 100000 in
set_option maxHeartbeats 4000000 in
theorem do_erase (p c e p' c' e' n cap : Nat) (f g : Fl) (K a m k : Int) (mk : UInt8) (A : Option Addr) (xs : List UInt8) (w : World) (hr : Rel f g) (hf : FlashAt w p c e f) (hg : RefAt w p' c' e' g) (hs : ByteSl w (Six p c e p' c' e') A n cap xs)
    (sep : ∀ k, Three p c e k → ¬ Three p' c' e' k) (K1 : 0 ≤ K) (K2 : K ≤ 255) (hK : K % 5 = 1) (hok : f.Ok) :
    Calls Try.prog 13 #[.pointer (some ⟨p, 0, none⟩), .pointer (some ⟨p', 0, none⟩), .agg (actBox K a m A n cap k mk)] w fun e1 w' => DoOk w w' p c e p' c' e' f e1 := by
  obtain ⟨cd, f', g', hr', s1, s2, s3, hpF, hpG⟩ := erase_pair p c e p' c' e' f g a hr hok
  have h0 : St w p c e p' c' e' w.heap.size (actBox K a m A n cap k mk) A n cap xs f g (w.alloc (.cells (actBox K a m A n cap k mk) 38)) := St.start hf hg hs sep
  have hF : ∀ gx W, St w p c e p' c' e' w.heap.size (actBox K a m A n cap k mk) A n cap xs f gx W → Calls Try.prog 22 #[.pointer (some ⟨p, 0, none⟩), .int .i64 a] W fun e1 w' => e1 = .returned (.int .i64 cd) ∧ St w p c e p' c' e' w.heap.size (actBox K a m A n cap k mk) A n cap xs f' gx w' :=
    fun gx W hS => (hpF W hS.ff).mono fun e1 w' ⟨he, h1, h2⟩ => ⟨he, hS.stepF h1 h2⟩
  have hG : ∀ fx W, St w p c e p' c' e' w.heap.size (actBox K a m A n cap k mk) A n cap xs fx g W → Calls Try.prog 26 #[.pointer (some ⟨p', 0, none⟩), .int .i64 a] W fun e1 w' => e1 = .returned (.int .i64 cd) ∧ St w p c e p' c' e' w.heap.size (actBox K a m A n cap k mk) A n cap xs fx g' w' :=
    fun fx W hS => (hpG W hS.gg).mono fun e1 w' ⟨he, h1, h2⟩ => ⟨he, hS.stepG h1 h2⟩
  have hbox : ∀ fx gx W, St w p c e p' c' e' w.heap.size (actBox K a m A n cap k mk) A n cap xs fx gx W → W.cell? ⟨w.heap.size, 1, none⟩ = some (.int .i64 a) ∧ W.cell? ⟨w.heap.size, 3, none⟩ = some (.slice A n cap) :=
    fun fx gx W hS => ⟨hS.bb.cell 1, hS.bb.cell 3⟩
  have hD : St w p c e p' c' e' w.heap.size (actBox K a m A n cap k mk) A n cap xs f g (w.alloc (.cells (actBox K a m A n cap k mk) 38)).drew := h0.same ((Only.refl Empty _).drew)
  have HF := Lib.hid hF
  have HG := Lib.hid hG
  have Hbox := Lib.hid hbox
  have Hr := Lib.hid hr'
  have Hs := Lib.hid (And.intro s1 (And.intro s2 s3))
  have hb0 : (K % 5 == 0) = false := by simp [hK]
  have hb1 : (K % 5 == 1) = true := by simp [hK]
  clear hpF hpG hF hG hbox hr' s1 s2 s3 hr hf hg hs sep h0 hK
  unfold actBox at *
  go_enter Try.func13, Try.ntmps13
  go_wp2_with fail
  go_region_held (fun W => W.cell? ⟨w.heap.size, 1, none⟩ = some (.int .i64 a) ∧ W.cell? ⟨w.heap.size, 3, none⟩ = some (.slice A n cap)) (first | exact Hbox.out _ _ _ hD | exact Hbox.out _ _ _ hS1 | exact Hbox.out _ _ _ hS2)
    (first | (go_at_call 22; (first | ((with_reducible refine (HF.out g _ hD).mono ?_); rintro e1 w7 ⟨rfl, hS1⟩) | ((with_reducible refine (HF.out g' _ hS2).mono ?_); rintro e1 w7 ⟨rfl, hS1⟩))) | (go_at_call 26; (first | ((with_reducible refine (HG.out f _ hD).mono ?_); rintro e1 w7 ⟨rfl, hS2⟩) | ((with_reducible refine (HG.out f' _ hS1).mono ?_); rintro e1 w7 ⟨rfl, hS2⟩))))
  go_wp2
  go_ret
  exact hS2.done Hr.out Hs.out.1 Hs.out.2.1 Hs.out.2.2

set_option maxRecDepth 100000 in
set_option maxHeartbeats 4000000 in
theorem do_fuse (p c e p' c' e' n cap : Nat) (f g : Fl) (K a m k : Int) (mk : UInt8) (A : Option Addr) (xs : List UInt8) (w : World) (hr : Rel f g) (hf : FlashAt w p c e f) (hg : RefAt w p' c' e' g) (hs : ByteSl w (Six p c e p' c' e') A n cap xs)
    (sep : ∀ k, Three p c e k → ¬ Three p' c' e' k) (K1 : 0 ≤ K) (K2 : K ≤ 255) (hK : K % 5 = 3) (m1 : -9223372036854775808 ≤ m) (m2 : m ≤ 9223372036854775807) (k1 : -9223372036854775808 ≤ k) (k2 : k ≤ 9223372036854775807) :
    Calls Try.prog 13 #[.pointer (some ⟨p, 0, none⟩), .pointer (some ⟨p', 0, none⟩), .agg (actBox K a m A n cap k mk)] w fun e1 w' => DoOk w w' p c e p' c' e' f e1 := by
  have h0 : St w p c e p' c' e' w.heap.size (actBox K a m A n cap k mk) A n cap xs f g (w.alloc (.cells (actBox K a m A n cap k mk) 38)) := St.start hf hg hs sep
  have hF := (fuse_any p c e f m k mk _ h0.ff m1 m2 k1 k2).mono (R' := fun e1 w' => e1 = .returned (.tuple #[]) ∧ St w p c e p' c' e' w.heap.size (actBox K a m A n cap k mk) A n cap xs (f.fused m k mk) g w')
    (fun e1 w' ⟨he, h1, h2⟩ => ⟨he, h0.stepF h1 (h2.mono (fun i _ hi => Or.inl hi))⟩)
  have hG : ∀ W, St w p c e p' c' e' w.heap.size (actBox K a m A n cap k mk) A n cap xs (f.fused m k mk) g W → Calls Try.prog 28 #[.pointer (some ⟨p', 0, none⟩), .int .i64 m, .agg #[.int .i64 k, B8 mk]] W fun e1 w' => e1 = .returned (.tuple #[]) ∧ St w p c e p' c' e' w.heap.size (actBox K a m A n cap k mk) A n cap xs (f.fused m k mk) (g.fused (max m (-1)) k mk) w' :=
    fun W hS => (rfuse_any p' c' e' g m k mk W hS.gg m2 k1 k2).mono fun e1 w' ⟨he, h1, h2⟩ => ⟨he, hS.stepG h1 (h2.mono (fun i _ hi => Or.inl hi))⟩
  have HF := Lib.hid hF
  have HG := Lib.hid hG
  have Hr := Lib.hid (hr.fused m k mk)
  have hb0 : (K % 5 == 0) = false := by simp [hK]
  have hb1 : (K % 5 == 1) = false := by simp [hK]
  have hb2 : (K % 5 == 2) = false := by simp [hK]
  have hb3 : (K % 5 == 3) = true := by simp [hK]
  clear hF hG hr hf hg hs sep h0 hK m1 m2 k1 k2
  unfold actBox at *
  go_enter Try.func13, Try.ntmps13
  go_wp2_with fail
  refine HF.out.mono ?_
  rintro e1 w1 ⟨rfl, hS1⟩
  have q2 : w1.cell? ⟨w.heap.size, 2, none⟩ = some (.int .i64 m) := hS1.bb.cell 2
  have q4 : w1.cell? ⟨w.heap.size, 4, none⟩ = some (.int .i64 k) := hS1.bb.cell 4
  have q5 : w1.cell? ⟨w.heap.size, 5, none⟩ = some (B8 mk) := hS1.bb.cell 5
  go_wp2_with fail
  refine (HG.out _ hS1).mono ?_
  rintro e1 w2 ⟨rfl, hS2⟩
  go_wp2
  go_ret
  exact hS2.done Hr.out rfl rfl rfl

set_option maxRecDepth 100000 in
set_option maxHeartbeats 4000000 in
theorem do_reset (p c e p' c' e' n cap : Nat) (f g : Fl) (K a m k : Int) (mk : UInt8) (A : Option Addr) (xs : List UInt8) (w : World) (hr : Rel f g) (hf : FlashAt w p c e f) (hg : RefAt w p' c' e' g) (hs : ByteSl w (Six p c e p' c' e') A n cap xs)
    (sep : ∀ k, Three p c e k → ¬ Three p' c' e' k) (K1 : 0 ≤ K) (K2 : K ≤ 255) (hK : K % 5 = 4) :
    Calls Try.prog 13 #[.pointer (some ⟨p, 0, none⟩), .pointer (some ⟨p', 0, none⟩), .agg (actBox K a m A n cap k mk)] w fun e1 w' => DoOk w w' p c e p' c' e' f e1 := by
  have h0 : St w p c e p' c' e' w.heap.size (actBox K a m A n cap k mk) A n cap xs f g (w.alloc (.cells (actBox K a m A n cap k mk) 38)) := St.start hf hg hs sep
  have hF := (reset_any p c e f _ h0.ff).mono (R' := fun e1 w' => e1 = .returned (.tuple #[]) ∧ St w p c e p' c' e' w.heap.size (actBox K a m A n cap k mk) A n cap xs f.reset g w')
    (fun e1 w' ⟨he, h1, h2⟩ => ⟨he, h0.stepF h1 (h2.mono (fun i _ hi => Or.inl hi))⟩)
  have hG : ∀ W, St w p c e p' c' e' w.heap.size (actBox K a m A n cap k mk) A n cap xs f.reset g W → Calls Try.prog 15 #[.pointer (some ⟨p', 0, none⟩)] W fun e1 w' => e1 = .returned (.tuple #[]) ∧ St w p c e p' c' e' w.heap.size (actBox K a m A n cap k mk) A n cap xs f.reset { g with up := true, fuse := -1 } w' :=
    fun W hS => (rreset_any p' c' e' g W hS.gg).mono fun e1 w' ⟨he, h1, h2⟩ => ⟨he, hS.stepG h1 (h2.mono (fun i _ hi => Or.inl hi))⟩
  have HF := Lib.hid hF
  have HG := Lib.hid hG
  have Hr := Lib.hid hr.reset
  have hb0 : (K % 5 == 0) = false := by simp [hK]
  have hb1 : (K % 5 == 1) = false := by simp [hK]
  have hb2 : (K % 5 == 2) = false := by simp [hK]
  have hb3 : (K % 5 == 3) = false := by simp [hK]
  clear hF hG hr hf hg hs sep h0 hK
  unfold actBox at *
  go_enter Try.func13, Try.ntmps13
  go_wp2_with fail
  refine HF.out.mono ?_
  rintro e1 w1 ⟨rfl, hS1⟩
  go_wp2_with fail
  refine (HG.out _ hS1).mono ?_
  rintro e1 w2 ⟨rfl, hS2⟩
  go_wp2
  go_ret
  exact hS2.done Hr.out rfl rfl rfl

end Go.Proofs.Ytaepdmifenkhcaa
