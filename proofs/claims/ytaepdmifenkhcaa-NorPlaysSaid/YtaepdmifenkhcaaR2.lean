/- The walks over the document's Read, Fuse, Reset, Right and New. -/
import Derived.Test.YtaepdmifenkhcaaR1
namespace Go.Proofs.Ytaepdmifenkhcaa
open Go.RowKit

theorem rread_down (p : Nat) (a n : Int) (w : World) (h5 : w.cell? ⟨p, 5, none⟩ = some (.bool true)) :
    Calls Try.prog 27 #[.pointer (some ⟨p, 0, none⟩), .int .i64 a, .int .i64 n] w fun e w' => e = .returned (.tuple #[.slice none 0 0, .int .i64 5]) ∧ w = w' := by
  go_enter Try.func27, Try.ntmps27
  go_wp2
  go_ret2
  exact ⟨rfl, rfl⟩

theorem rread_out (p c e : Nat) (fl : Fl) (a n : Int) (w : World) (hf : RefAt w p c e fl) (hu : fl.up = true) (a2 : a ≤ 9223372036854775807) (n2 : n ≤ 9223372036854775807)
    (h : a < 0 ∨ n < 0 ∨ ((fl.S * fl.Z : Nat) : Int) < a + n) :
    Calls Try.prog 27 #[.pointer (some ⟨p, 0, none⟩), .int .i64 a, .int .i64 n] w fun e w' => e = .returned (.tuple #[.slice none 0 0, .int .i64 2]) ∧ w = w' := by
  have hs := there_no p c (fl.S * fl.Z) a n w (by rw [hf.hd.cell]; simp [Fl.rhdr]) a2 n2 h
  have h5 : w.cell? ⟨p, 5, none⟩ = some (.bool false) := by rw [hf.hd.cell]; simp [Fl.rhdr, hu]
  have Hs := Lib.hid hs
  clear hs hf hu h
  go_enter Try.func27, Try.ntmps27
  go_wp2_with fail
  refine Hs.out.mono ?_
  rintro e1 w1 ⟨rfl, rfl⟩
  go_wp2
  go_ret2
  exact ⟨rfl, rfl⟩

set_option maxHeartbeats 1000000 in
theorem rread_in (p c e at_ n : Nat) (fl : Fl) (w : World) (hf : RefAt w p c e fl) (hu : fl.up = true) (h : at_ + n ≤ fl.S * fl.Z) :
    Calls Try.prog 27 #[.pointer (some ⟨p, 0, none⟩), .int .i64 (at_ : Int), .int .i64 (n : Int)] w fun e w' => ReadOk w w' n ((fl.bs.drop at_).take n) e := by
  have hsz := hf.ok.sz
  have hs := there_yes p c (fl.S * fl.Z) at_ n w (by rw [hf.hd.cell]; simp [Fl.rhdr]) (by omega) h
  have h5 : w.cell? ⟨p, 5, none⟩ = some (.bool false) := by rw [hf.hd.cell]; simp [Fl.rhdr, hu]
  have h3 : w.cell? ⟨p, 3, none⟩ = some (.slice (some ⟨c, 0, none⟩) (fl.S * fl.Z) (fl.S * fl.Z)) := by rw [hf.hd.cell]; simp [Fl.rhdr]
  have hlt := hf.hd.lt
  obtain ⟨T, hT⟩ : ∃ T, T = fl.S * fl.Z := ⟨_, rfl⟩
  rw [← hT] at h h3 hsz
  have Hs := Lib.hid hs
  have HT := Lib.hid hT
  clear hs hu hT
  obtain ⟨i0, hi, hz0, hz1, hz2⟩ := info_parts Try.infoU8
  have hnm : n ≤ 4194304 := by omega
  obtain ⟨news, hnews⟩ : ∃ l, l = ((fl.bs.drop at_).take n).map B8 := ⟨_, rfl⟩
  have hlen : news.length = n * 1 := by
    rw [hnews]
    simp [hf.ok.bl, ← HT.out]; omega
  have h1 : ∀ u ∈ news, u.oneCell' = true := by
    intro u hm
    rw [hnews] at hm
    obtain ⟨b, _, rfl⟩ := List.mem_map.1 hm
    rfl
  have hcells : ∀ (o : Nat), (0 < n → o = at_) → ∀ j u, news[j]? = some u → (w.alloc (.cells #[] 5)).cell? ((⟨c, o, none⟩ : Addr).add j) = some u := by
    intro o ho j u hj
    have hjn : j < n := by
      have := (List.getElem?_eq_some_iff.1 hj).1
      omega
    obtain rfl := ho (by omega)
    have ha : (⟨c, o, none⟩ : Addr).add j = ⟨c, o + j, none⟩ := by unfold Addr.add; split <;> simp_all
    rw [ha, (hf.ce.alloc _).cell]
    rw [hnews, List.getElem?_map, List.getElem?_take, if_pos hjn, List.getElem?_drop] at hj
    simpa using hj
  have Hnews := Lib.hid hnews
  have Hl := Lib.hid hlen
  have Hc := Lib.hid hcells
  have H1 := Lib.hid h1
  have Hi := Lib.hid hi
  have Hz0 := Lib.hid hz0
  have Hz1 := Lib.hid hz1
  have Hz2 := Lib.hid hz2
  clear hlen hcells h1 hi hz0 hz1 hz2 hf hnews
  have hown0 : (w.alloc (.cells #[] 5)).ownsRow w.heap.size 5 1 (.slice (some ⟨w.heap.size, 0, none⟩) 0 0) 0 [] := World.ownsRow_made w #[] 0 (Nat.le_refl _) (by decide) rfl
  by_cases hat : at_ = T
  · subst hat
    have hn0 : n = 0 := by omega
    subst hn0
    go_enter Try.func27, Try.ntmps27
    go_wp2_with fail
    refine Hs.out.mono ?_
    rintro e1 w1 ⟨rfl, rfl⟩
    go_wp2_with (at_builtin; refine wpList_append_own_at _ rfl (.tmp 17) (.tmp 26) 34 rfl w.heap.size 5 i0 (.int .u8 0) 1 1 Try.underlying34 Hi.out Hz0.out Hz1.out Hz2.out rfl (by decide) (.slice (some ⟨w.heap.size, 0, none⟩) 0 0) 0 [] rfl hown0 ⟨c, 0, none⟩ 0 0 news rfl Hl.out (Hc.out 0 (by intro hq; omega)) H1.out ?c3 ?c4 ?c5 ?_)
    case c3 => unfold maxLen; omega
    case c4 => omega
    case c5 => simp
    intro v1 w1 hown hg _ hat
    go_wp2
    go_ret2
    rw [Hnews.out] at hown
    exact ⟨v1, rfl, by simpa using hown, ((Below.refl _ _).alloc (Nat.le_refl _) _).grown hg (by simp) (by intro k hk; simp [Value.ownBlock] at hk; omega)⟩
  · have hat2 : ¬ T = at_ := fun e => hat e.symm
    have hsub : at_ + n - at_ = n := by omega
    have Hsub := Lib.hid hsub
    have hl2 : news.length = (at_ + n - at_) * 1 := by rw [hsub]; exact Hl.out
    have Hl2 := Lib.hid hl2
    clear hsub hl2
    have hlo : (0 : Int) ≤ (at_ : Int) := by omega
    go_enter Try.func27, Try.ntmps27
    go_wp2_with fail
    refine Hs.out.mono ?_
    rintro e1 w1 ⟨rfl, rfl⟩
    go_wp2_with (at_builtin; refine wpList_append_own_at _ rfl (.tmp 17) (.tmp 26) 34 rfl w.heap.size 5 i0 (.int .u8 0) 1 1 Try.underlying34 Hi.out Hz0.out Hz1.out Hz2.out rfl (by decide) (.slice (some ⟨w.heap.size, 0, none⟩) 0 0) 0 [] rfl hown0 ⟨c, at_, none⟩ (at_ + n - at_) (T - at_) news rfl Hl2.out (Hc.out at_ (fun _ => rfl)) H1.out ?c3 ?c4 ?c5 ?_)
    case c3 => unfold maxLen; omega
    case c4 => omega
    case c5 => simp
    intro v1 w1 hown hg _ hat3
    rw [Hnews.out] at hown
    go_wp2
    go_ret2
    exact ⟨v1, rfl, hown, ((Below.refl _ _).alloc (Nat.le_refl _) _).grown hg (by simp) (by intro k hk; simp [Value.ownBlock] at hk; omega)⟩

theorem rreset_any (p c e : Nat) (fl : Fl) (w : World) (hf : RefAt w p c e fl) :
    Calls Try.prog 15 #[.pointer (some ⟨p, 0, none⟩)] w fun e1 w' => e1 = .returned (.tuple #[]) ∧ RefAt w' p c e { fl with up := true, fuse := -1 } ∧ Only (· = p) w w' := by
  have hh := hf.hd.cell
  have h5 : w.cell? ⟨p, 5, none⟩ = some (.bool (!fl.up)) := by rw [hh]; simp [Fl.rhdr]
  have h6 : w.cell? ⟨p, 6, none⟩ = some (.int .i64 fl.fuse) := by rw [hh]; simp [Fl.rhdr]
  have f5 := hf.hd.frozen 5
  have f6 := hf.hd.frozen 6
  have Hf := Lib.hid hf
  clear hf hh
  go_enter Try.func15, Try.ntmps15
  go_wp2
  go_end0
  have hf := Hf.out
  refine ⟨rfl, ⟨⟨hf.ok.s1, hf.ok.s2, hf.ok.z1, hf.ok.z2, hf.ok.l1, hf.ok.l2, hf.ok.bl, hf.ok.el, hf.ok.eb, by simp, by simp, hf.ok.k1, hf.ok.k2⟩, by simp, ?_, ?_, ?_⟩, ?_⟩
  · have h2 := (hf.hd.set_ 5 (.bool false)).set_ 6 (.int .i64 (-1))
    exact h2
  · have hp : c ≠ p := hf.pc.symm
    exact (hf.ce.far (p := ⟨p, 5, none⟩) hp _).far (p := ⟨p, 6, none⟩) hp _
  · have hp : e ≠ p := hf.pe.symm
    exact (hf.er.far (p := ⟨p, 5, none⟩) hp _).far (p := ⟨p, 6, none⟩) hp _
  · exact ((Only.refl (· = p) w).setCell (p := ⟨p, 5, none⟩) (Or.inl rfl) _).setCell (p := ⟨p, 6, none⟩) (Or.inl rfl) _

set_option maxHeartbeats 1000000 in
theorem rfuse_any (p c e : Nat) (fl : Fl) (n k : Int) (m : UInt8) (w : World) (hf : RefAt w p c e fl) (n2 : n ≤ 9223372036854775807) (k1 : -9223372036854775808 ≤ k) (k2 : k ≤ 9223372036854775807) :
    Calls Try.prog 28 #[.pointer (some ⟨p, 0, none⟩), .int .i64 n, .agg #[.int .i64 k, B8 m]] w fun e1 w' => e1 = .returned (.tuple #[]) ∧ RefAt w' p c e (fl.fused (max n (-1)) k m) ∧ Only (· = p) w w' := by
  have hh := hf.hd.cell
  have h6 : w.cell? ⟨p, 6, none⟩ = some (.int .i64 fl.fuse) := by rw [hh]; simp [Fl.rhdr]
  have h7 : w.cell? ⟨p, 7, none⟩ = some (.int .i64 fl.keep) := by rw [hh]; simp [Fl.rhdr]
  have h8 : w.cell? ⟨p, 8, none⟩ = some (.int .u8 (fl.mask.toNat : Int)) := by rw [hh]; simp [Fl.rhdr, B8]
  have f6 := hf.hd.frozen 6
  have f7 := hf.hd.frozen 7
  have f8 := hf.hd.frozen 8
  have hlt := hf.hd.lt
  have Hf := Lib.hid hf
  clear hf hh
  have main : ∀ (q : Int) (w' : World), -1 ≤ q → q ≤ 9223372036854775807 → w' = (((w.setCell ⟨p, 6, none⟩ (.int .i64 q)).setCell ⟨p, 7, none⟩ (.int .i64 k)).setCell ⟨p, 8, none⟩ (B8 m)).alloc (.cells #[.int .i64 k, B8 m] 36) →
      RefAt w' p c e (fl.fused q k m) ∧ Only (· = p) w w' := by
    intro q w' q1 q2 hw
    subst hw
    have hf := Hf.out
    have hp1 : c ≠ p := hf.pc.symm
    have hp2 : e ≠ p := hf.pe.symm
    refine ⟨⟨⟨hf.ok.s1, hf.ok.s2, hf.ok.z1, hf.ok.z2, hf.ok.l1, hf.ok.l2, hf.ok.bl, hf.ok.el, hf.ok.eb, by show _ ≤ q; omega, q2, k1, k2⟩, q1, ?_, ?_, ?_⟩, ?_⟩
    · have h2 := ((hf.hd.set_ 6 (.int .i64 q)).set_ 7 (.int .i64 k)).set_ 8 (B8 m)
      exact h2.alloc _
    · exact (((hf.ce.far (p := ⟨p, 6, none⟩) hp1 _).far (p := ⟨p, 7, none⟩) hp1 _).far (p := ⟨p, 8, none⟩) hp1 _).alloc _
    · exact (((hf.er.far (p := ⟨p, 6, none⟩) hp2 _).far (p := ⟨p, 7, none⟩) hp2 _).far (p := ⟨p, 8, none⟩) hp2 _).alloc _
    · exact ((((Only.refl (· = p) w).setCell (p := ⟨p, 6, none⟩) (Or.inl rfl) _).setCell (p := ⟨p, 7, none⟩) (Or.inl rfl) _).setCell (p := ⟨p, 8, none⟩) (Or.inl rfl) _).alloc _
  have Main := Lib.hid main
  clear main
  unfold B8
  by_cases h : n < -1
  · rw [Int.max_eq_right (by omega)]
    go_enter Try.func28, Try.ntmps28
    go_wp2
    go_end0
    exact ⟨rfl, Main.out (-1) _ (by omega) (by omega) rfl⟩
  · rw [Int.max_eq_left (by omega)]
    go_enter Try.func28, Try.ntmps28
    go_wp2
    go_end0
    exact ⟨rfl, Main.out n _ (by omega) n2 rfl⟩

/-! ### Right, New -/
set_option maxHeartbeats 2000000 in
theorem right_yes (S Z L : Int) (w : World) (h : GeoOk S Z L) :
    Calls Try.prog 10 #[.agg #[.int .i64 S, .int .i64 Z, .int .i64 L]] w fun e w' => e = .returned (.bool true) ∧ w' = w.alloc (.cells #[.int .i64 S, .int .i64 Z, .int .i64 L] 23) := by
  obtain ⟨h1, h2, h3, h4, h5, h6⟩ := h
  go_enter Try.func10, Try.ntmps10
  go_wp2
  go_ret
  exact ⟨rfl, rfl⟩

set_option maxHeartbeats 2000000 in
theorem right_no (S Z L : Int) (w : World) (h : ¬ GeoOk S Z L) :
    Calls Try.prog 10 #[.agg #[.int .i64 S, .int .i64 Z, .int .i64 L]] w fun e w' => e = .returned (.bool false) ∧ w' = w.alloc (.cells #[.int .i64 S, .int .i64 Z, .int .i64 L] 23) := by
  have Hh := Lib.hid h
  clear h
  by_cases h1 : 1 ≤ S
  · by_cases h2 : S ≤ 64
    · by_cases h3 : 64 ≤ Z
      · by_cases h4 : Z ≤ 65536
        · by_cases h5 : 1 ≤ L
          · by_cases h6 : L ≤ 1048576
            · exact absurd ⟨h1, h2, h3, h4, h5, h6⟩ Hh.out
            · have hd : decide (L ≤ 1048576) = false := by simp; omega
              go_enter Try.func10, Try.ntmps10
              go_wp2
              go_ret
              exact ⟨rfl, rfl⟩
          · have hd : decide (1 ≤ L) = false := by simp; omega
            go_enter Try.func10, Try.ntmps10
            go_wp2
            go_ret
            exact ⟨rfl, rfl⟩
        · have hd : decide (Z ≤ 65536) = false := by simp; omega
          go_enter Try.func10, Try.ntmps10
          go_wp2
          go_ret
          exact ⟨rfl, rfl⟩
      · have hd : decide (64 ≤ Z) = false := by simp; omega
        go_enter Try.func10, Try.ntmps10
        go_wp2
        go_ret
        exact ⟨rfl, rfl⟩
    · have hd : decide (S ≤ 64) = false := by simp; omega
      go_enter Try.func10, Try.ntmps10
      go_wp2
      go_ret
      exact ⟨rfl, rfl⟩
  · have hd : decide (1 ≤ S) = false := by simp; omega
    go_enter Try.func10, Try.ntmps10
    go_wp2
    go_ret
    exact ⟨rfl, rfl⟩

/-- A new flash of the document's. -/
def Fl.rfresh (S Z L : Nat) : Fl := { S := S, Z := Z, L := L, bs := List.replicate (S * Z) 255, er := List.replicate S 0, up := true, fuse := -1, keep := 0, mask := 0 }

def RNewOk (w w' : World) (S Z L : Nat) (e : Ending) : Prop :=
  ∃ p c er, e = .returned (.pointer (some ⟨p, 0, none⟩)) ∧ RefAt w' p c er (Fl.fresh S Z L) ∧ Below w.heap.size w w' ∧ w.heap.size ≤ p ∧ w.heap.size ≤ c ∧ w.heap.size ≤ er

/-- While the bytes are filled: i of them are. -/
structure RInv (w : World) (p c er S Z L T i : Nat) (W : World) : Prop where
  hd : Blk W p 44 #[.int .i64 (S : Int), .int .i64 (Z : Int), .int .i64 (L : Int), .slice (some ⟨c, 0, none⟩) T T, .slice (some ⟨er, 0, none⟩) S S, .bool false, .int .i64 (-1), .int .i64 0, .int .u8 0]
  hr : Blk W er 3 (madeCells #[.int .i64 0] S)
  hc : Blk W c 5 (cellsB ((List.replicate T 0).mapIdx (fillF 0 i)))
  bl : Below w.heap.size w W
  ph : w.heap.size ≤ p
  ch : w.heap.size ≤ c
  eh : w.heap.size ≤ er

theorem RInv.step {w W : World} {p c er S Z L T i : Nat} (h : RInv w p c er S Z L T i W) : RInv w p c er S Z L T (i + 1) (W.setCell ⟨c, i, none⟩ (.int .u8 255)) :=
  ⟨h.hd.far (p := ⟨c, i, none⟩) (h.hd.ne_ h.hc (by decide)) _, h.hr.far (p := ⟨c, i, none⟩) (h.hr.ne_ h.hc (by decide)) _, by
    have h2 := h.hc.set_ i (B8 255)
    rw [cellsB_set] at h2
    have h3 := fillF_step (List.replicate T 0) 0 i
    rw [Nat.zero_add] at h3
    rw [h3] at h2
    exact h2, h.bl.setCell (p := ⟨c, i, none⟩) h.ch _, h.ph, h.ch, h.eh⟩

theorem RInv.done {w W : World} {p c er S Z L T : Nat} (h : RInv w p c er S Z L T T W) (hg : GeoOk S Z L) (hT : T = S * Z) : RNewOk w W S Z L (.returned (.pointer (some ⟨p, 0, none⟩))) := by
  subst hT
  have hc := h.hc
  have hr := h.hr
  rw [filled_all] at hc
  rw [made_ints] at hr
  exact ⟨p, c, er, rfl, ⟨fresh_ok hg, by show -1 ≤ (-1 : Int); omega, h.hd, hc, hr⟩, h.bl, h.ph, h.ch, h.eh⟩

set_option maxHeartbeats 4000000 in
theorem rnew_yes (S Z L : Nat) (w : World) (h : GeoOk S Z L) :
    Calls Try.prog 12 #[.agg #[.int .i64 (S : Int), .int .i64 (Z : Int), .int .i64 (L : Int)]] w fun e w' => RNewOk w w' S Z L e := by
  have hT : S * Z ≤ 64 * 65536 := Nat.mul_le_mul (by have := h.s2; omega) (by have := h.z2; omega)
  have hs2 := h.s2
  obtain ⟨T, hTe⟩ : ∃ T, T = S * Z := ⟨_, rfl⟩
  have hmul : IntKind.i64.wrap ((S : Int) * (Z : Int)) = (T : Int) := by
    have : (S : Int) * (Z : Int) = ((S * Z : Nat) : Int) := by simp
    rw [this, ← hTe, IntKind.wrap_i64]
    omega
  rw [← hTe] at hT
  have hmk1 := fun W => run_make_row' (P := Try.prog) 34 5 (.int .u8 0) 1 Try.underlying34 Try.infoU8 rfl .i64 .i64 T (by omega) (by omega) W
  have hmk2 := fun W => run_make_row' (P := Try.prog) 42 3 (.int .i64 0) 8 Try.underlying42 Try.infoInt rfl .i64 .i64 S (by omega) (by omega) W
  have Hh := Lib.hid h
  have HT := Lib.hid hTe
  clear h hTe
  go_enter Try.func12, Try.ntmps12
  go_wp2_with fail
  go_region
  · clear hmk1 hmk2 hmul
    go_wp2_with fail
    go_loopw [22] (fun v wr => ∃ i : Nat, i ≤ T ∧ v = .int .i64 (i : Int) ∧ RInv w (w.heap.size + 1 + 1 + 1) (w.heap.size + 1) (w.heap.size + 1 + 1) S Z L T i wr) (fun v _ => T - (intOf v).toNat)
    case atStart => exact ⟨0, Nat.zero_le _, rfl, ⟨(Blk.new' (by simp)).drew, ((Blk.new' (by simp)).alloc _).drew, by rw [fillF_zero, ← made_bytes]; exact (((Blk.new' (by simp)).alloc _).alloc _).drew, ((((Below.refl _ _).alloc (Nat.le_refl _) _).alloc (by simp) _).alloc (by simp; omega) _).alloc (by simp; omega) _ |>.drew, by omega, by omega, by omega⟩⟩
    case round =>
      obtain ⟨i, hi, rfl, hR⟩ := hrel
      have h3 : wr.cell? ⟨w.heap.size + 1 + 1 + 1, 3, none⟩ = some (.slice (some ⟨w.heap.size + 1, 0, none⟩) T T) := hR.hd.cell 3
      by_cases hlt : i < T
      · have hcell : wr.cell? ⟨w.heap.size + 1, i, none⟩ = some (B8 ((fillF 0 i) i 0)) := by
          rw [hR.hc.cell, cellsB_get, List.getElem?_mapIdx, List.getElem?_replicate, if_pos hlt]
          rfl
        have hfr := hR.hc.frozen i
        go_wp2
        go_roundw
        case rel => exact ⟨i + 1, by omega, by go_num, hR.step⟩
        case measure => simp [intOf]; omega
      · obtain rfl : i = T := by omega
        go_wp2
        go_ret
        exact hR.done Hh.out HT.out
  · clear hmk1 hmk2 hmul
    go_wp2_with fail
    go_loopw [22] (fun v wr => ∃ i : Nat, i ≤ T ∧ v = .int .i64 (i : Int) ∧ RInv w (w.heap.size + 1 + 1 + 1) (w.heap.size + 1 + 1) (w.heap.size + 1) S Z L T i wr) (fun v _ => T - (intOf v).toNat)
    case atStart => exact ⟨0, Nat.zero_le _, rfl, ⟨(Blk.new' (by simp)).drew, (((Blk.new' (by simp)).alloc _).alloc _).drew, by rw [fillF_zero, ← made_bytes]; exact ((Blk.new' (by simp)).alloc _).drew, ((((Below.refl _ _).alloc (Nat.le_refl _) _).alloc (by simp) _).alloc (by simp; omega) _).alloc (by simp; omega) _ |>.drew, by omega, by omega, by omega⟩⟩
    case round =>
      obtain ⟨i, hi, rfl, hR⟩ := hrel
      have h3 : wr.cell? ⟨w.heap.size + 1 + 1 + 1, 3, none⟩ = some (.slice (some ⟨w.heap.size + 1 + 1, 0, none⟩) T T) := hR.hd.cell 3
      by_cases hlt : i < T
      · have hcell : wr.cell? ⟨w.heap.size + 1 + 1, i, none⟩ = some (B8 ((fillF 0 i) i 0)) := by
          rw [hR.hc.cell, cellsB_get, List.getElem?_mapIdx, List.getElem?_replicate, if_pos hlt]
          rfl
        have hfr := hR.hc.frozen i
        go_wp2
        go_roundw
        case rel => exact ⟨i + 1, by omega, by go_num, hR.step⟩
        case measure => simp [intOf]; omega
      · obtain rfl : i = T := by omega
        go_wp2
        go_ret
        exact hR.done Hh.out HT.out

end Go.Proofs.Ytaepdmifenkhcaa
