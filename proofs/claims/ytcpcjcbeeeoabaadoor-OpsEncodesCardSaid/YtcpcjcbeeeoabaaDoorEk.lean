/- ops.Decode: what any bytes tell. -/
import Derived.Test.YtcpcjcbeeeoabaaDoorEj
namespace Go.Proofs.YtcpcjcbeeeoabaaDoor
set_option maxRecDepth 100000
open Go.RowKit

/-- What any code tells. -/
inductive Dec (xs : List UInt8) : Int → List RawD → Prop
  | long : 4096 < xs.length → Dec xs 9 []
  | bad {e : Int} {l : List RawD} : xs.length ≤ 4096 → Cuts xs 0 [] e l → e ≠ 0 → Dec xs e []
  | range {l : List RawD} : xs.length ≤ 4096 → Cuts xs 0 [] 0 l → meetF l = false → Dec xs 2 []
  | ok {l : List RawD} : xs.length ≤ 4096 → Cuts xs 0 [] 0 l → meetF l = true → Dec xs 0 l

theorem dec_ex (xs : List UInt8) : ∃ e l, Dec xs e l := by
  by_cases h : xs.length ≤ 4096
  · obtain ⟨e, l, hc⟩ := cuts_ex xs xs.length 0 [] (by omega)
    by_cases he : e = 0
    · subst he
      cases hm : meetF l with
      | true => exact ⟨0, l, .ok h hc hm⟩
      | false => exact ⟨2, [], .range h hc hm⟩
    · exact ⟨e, [], .bad h hc he⟩
  · exact ⟨9, [], .long (by omega)⟩

/-- What was cut lies below the place, rising; its numbers are the machine's. -/
structure Below_ (l : List RawD) (k n : Nat) : Prop where
  rise : Rise l
  lt : ∀ r ∈ l, r.pl < (k : Int)
  ok : ∀ r ∈ l, r.ok
  len : l.length ≤ k
theorem readR_ok {xs : List UInt8} {k : Nat} (hk : k ≤ 1048576) : (readR xs k).ok := by
  have hf := formN_le (opN xs k)
  have ha : -32768 ≤ aW (formN (opN xs k)) xs k ∧ aW (formN (opN xs k)) xs k ≤ 65535 := worthF_bd _ _ _ (shapeF_le _ hf).1
  have hb : -32768 ≤ bW (formN (opN xs k)) xs k ∧ bW (formN (opN xs k)) xs k ≤ 65535 := worthF_bd _ _ _ (by have := (shapeF_le _ hf).2; omega)
  refine ⟨?_, opN_lt xs k, ?_, ?_⟩
  · show -9223372036854775808 ≤ (k : Int) ∧ (k : Int) ≤ 9223372036854775807
    omega
  · show -9223372036854775808 ≤ aN _ xs k ∧ aN _ xs k ≤ 9223372036854775807
    unfold aN
    split <;> omega
  · show -9223372036854775808 ≤ bW _ xs k ∧ bW _ xs k ≤ 9223372036854775807
    omega
theorem rise_snoc {l : List RawD} {r : RawD} (h : Rise l) (hl : ∀ x ∈ l, x.pl < r.pl) : Rise (l ++ [r]) := by
  intro i j x y hij hx hy
  have hjl := (List.getElem?_eq_some_iff.1 hy).1
  simp at hjl
  rw [List.getElem?_append_left (by omega)] at hx
  rcases Nat.lt_or_ge j l.length with h2 | h2
  · rw [List.getElem?_append_left h2] at hy
    exact h i j x y hij hx hy
  · rw [List.getElem?_append_right h2] at hy
    have : j - l.length = 0 := by omega
    rw [this] at hy
    simp at hy
    subst hy
    exact hl x (List.mem_of_getElem? hx)
theorem cuts_below {xs : List UInt8} {k : Nat} {l l' : List RawD} {e : Int} (hn : xs.length ≤ 1048576) (h : Cuts xs k l e l') : k ≤ xs.length → Below_ l k xs.length → Below_ l' xs.length xs.length := by
  induction h with
  | stop hk => exact fun hk2 hb => ⟨hb.rise, fun r hr => by have := hb.lt r hr; omega, hb.ok, by have := hb.len; omega⟩
  | bad => exact fun _ _ => ⟨fun i j x y _ h => by simp at h, fun r hr => by simp at hr, fun r hr => by simp at hr, by simp⟩
  | @go k l l' e hk he hc ih =>
    intro hk2 hb
    have hr := read_len hk he
    refine ih hr.2 ⟨rise_snoc hb.rise (fun x hx => hb.lt x hx), fun r hr2 => ?_, fun r hr2 => ?_, ?_⟩
    · rw [List.mem_append] at hr2
      rcases hr2 with h | h
      · have := hb.lt r h
        omega
      · simp at h
        subst h
        show (k : Int) < _
        omega
    · rw [List.mem_append] at hr2
      rcases hr2 with h | h
      · exact hb.ok r h
      · simp at h
        subst h
        exact readR_ok (by omega)
    · have := hb.len
      simp
      omega
theorem cuts_all {xs : List UInt8} {l : List RawD} {e : Int} (hn : xs.length ≤ 1048576) (h : Cuts xs 0 [] e l) : Rise l ∧ (∀ r ∈ l, r.ok) ∧ l.length ≤ xs.length := by
  have := cuts_below hn h (by omega) ⟨fun i j x y _ h => by simp at h, fun r hr => by simp at hr, fun r hr => by simp at hr, by simp⟩
  exact ⟨this.rise, this.ok, this.len⟩

/-! ### The block of forms that a call makes -/
def withForms (w : World) : World := (w.alloc (.cells (cellsB (fillL 0)) 38)).setRow w.heap.size (cellsB formsL)
theorem withForms_at (w : World) : FormsAt (withForms w) w.heap.size := setRow_heap _ _ _ _ _ (0, 0) (Blk.new w 38 (cellsB (fillL 0)))
theorem withForms_below (w : World) : Below w.heap.size w (withForms w) := below_setRow ((Below.refl _ _).alloc (Nat.le_refl _) _) (Nat.le_refl _) _
theorem withForms_size (w : World) : (withForms w).heap.size = w.heap.size + 1 := by unfold withForms; simp
theorem sizeForms : (Tryd.prog.info? 38).map (·.size) = some (cellsB formsL).size := by rw [cellsB_len, formsL_len]; kernel_rfl
theorem fill_size : (cellsB (fillL 0)).size = (cellsB formsL).size := by rw [cellsB_len, cellsB_len, formsL_len, fillL_len]
theorem forms_one : (cellsB formsL).all (·.oneCell') = true := by kernel_rfl

theorem decode_long (A : Option Addr) (n cap : Nat) (xs : List UInt8) (w : World) (hB : ByteSl w Empty A n cap xs) (h : 4096 < n) :
    Calls Tryd.prog 12 #[.slice A n cap] w fun e w' => GotRaws w w' e 9 [] := by
  have hcap := hB.2.2.1
  have hncap := hB.2.1
  unfold maxLen at hcap
  clear hB
  go_enter Tryd.func12, Tryd.ntmps12
  go_wp2
  go_ret2
  exact ⟨⟨none, 0, rfl, GotR.nil_ _ _ _ _ _⟩, Below.refl _ _⟩

set_option maxHeartbeats 2000000 in
theorem decode_any (A : Option Addr) (n cap : Nat) (xs : List UInt8) (E : Int) (L : List RawD) (w : World) (hT : Tables w) (hB : ByteSl w Empty A n cap xs) (hD : Dec xs E L) :
    Calls Tryd.prog 12 #[.slice A n cap] w fun e w' => GotRaws w w' e E L := by
  have hxl := hB.1
  have hncap := hB.2.1
  by_cases hn : n ≤ 4096
  · obtain ⟨E', l, hC, hEL⟩ : ∃ E' l, Cuts xs 0 [] E' l ∧ ((E' ≠ 0 ∧ E = E' ∧ L = []) ∨ (E' = 0 ∧ meetF l = false ∧ E = 2 ∧ L = []) ∨ (E' = 0 ∧ meetF l = true ∧ E = 0 ∧ L = l)) := by
      cases hD with
      | long h => omega
      | bad _ hc he => exact ⟨_, _, hc, .inl ⟨he, rfl, rfl⟩⟩
      | range _ hc hm => exact ⟨_, _, hc, .inr (.inl ⟨rfl, hm, rfl, rfl⟩)⟩
      | ok _ hc hm => exact ⟨_, _, hc, .inr (.inr ⟨rfl, hm, rfl, rfl⟩)⟩
    obtain ⟨hRi, hok, hll⟩ := cuts_all (by omega) hC
    have HA : Hid (Calls Tryd.prog 17 #[] w fun e w' => e = .returned (.agg (cellsB formsL)) ∧ Below w.heap.size w w') := Lib.hid (all_any w hT)
    have HCut : Hid (∀ W g, Below w.heap.size w W → FormsAt W g → Calls Tryd.prog 19 #[.pointer (some ⟨g, 0, none⟩), .slice A n cap] W fun e w' => GotRaws W w' e E' l) :=
      Lib.hid (fun W g h hF => cut_any g A n cap xs E' l W (hT.below h) hF (hB.only (Only.of_below h) (fun _ _ h => h)) (by omega) hC)
    have hz := zero_forms
    have HM : Hid (∀ W g B m c, FormsAt W g → RawSl W B m c l → Calls Tryd.prog 20 #[.pointer (some ⟨g, 0, none⟩), .slice B m c] W fun e w' => e = .returned (.bool (meetF l)) ∧ Below W.heap.size W w') :=
      Lib.hid (fun W g B m c hF hL => meet_any g B m c l W hF hL (by have := hL.1; omega) hok hRi)
    have HEL := Lib.hid hEL
    clear hT hB hD hC hEL hRi hok hll
    go_enter Tryd.func12, Tryd.ntmps12
    go_wp2_with fail
    refine HA.out.mono ?_
    rintro e1 w1 ⟨rfl, hb1⟩
    have HW1 := Lib.hid hb1
    clear hb1
    go_wp2_with (refine wpList_store_row rfl _ _ _ rfl w1.heap.size (cellsB formsL) rfl rfl 38 (cellsB (fillL 0)) (Blk.new _ _ _) sizeForms fill_size forms_one ?_)
    have HF2 : Hid (FormsAt ((w1.alloc (.cells (cellsB (fillL 0)) 38)).setRow w1.heap.size (cellsB formsL)) w1.heap.size) := Lib.hid (withForms_at w1)
    have HW2 : Hid (Below w.heap.size w ((w1.alloc (.cells (cellsB (fillL 0)) 38)).setRow w1.heap.size (cellsB formsL))) := Lib.hid (HW1.out.trans ((withForms_below w1).mono HW1.out.size))
    refine (HCut.out _ _ HW2.out HF2.out).mono ?_
    rintro e3 w3 ⟨⟨B, c, rfl, hG⟩, hb3⟩
    have HF3 := Lib.hid (HF2.out.of (hb3.block w1.heap.size (Blk.lt HF2.out)))
    have HW3 := Lib.hid (HW2.out.trans (hb3.mono HW2.out.size))
    have hmc := hG.row.2.1
    have hcx : c ≤ 9223372036854775807 := by have := hG.row.2.2.1; unfold maxLen at this; exact this
    have HG3 := Lib.hid (hG.lower HW2.out.size)
    have HR3 : Hid (RawSl w3 B l.length c l) := Lib.hid hG.row
    clear hG hb3 hz
    rcases HEL.out with ⟨he, rfl, rfl⟩ | ⟨rfl, hm, rfl, rfl⟩ | ⟨rfl, hm, rfl, rfl⟩
    · have hEq : (E == 0) = false := by simpa using he
      clear he HEL
      go_wp2
      go_ret2
      exact ⟨⟨none, 0, rfl, GotR.nil_ _ _ _ _ _⟩, HW3.out⟩
    · rw [hm] at HM
      clear HEL hm
      go_wp2_with fail
      refine (HM.out _ _ _ _ _ HF3.out HR3.out).mono ?_
      rintro e4 w4 ⟨rfl, hb4⟩
      have HW4 := Lib.hid (HW3.out.trans (hb4.mono HW3.out.size))
      clear hb4
      go_wp2
      go_ret2
      exact ⟨⟨none, 0, rfl, GotR.nil_ _ _ _ _ _⟩, HW4.out⟩
    · rw [hm] at HM
      clear HEL hm
      go_wp2_with fail
      refine (HM.out _ _ _ _ _ HF3.out HR3.out).mono ?_
      rintro e4 w4 ⟨rfl, hb4⟩
      have HW4 := Lib.hid (HW3.out.trans (hb4.mono HW3.out.size))
      have HG4 := Lib.hid (HG3.out.below RawD.cells_len hb4)
      clear hb4
      go_wp2
      go_ret2
      exact ⟨⟨B, c, rfl, HG4.out⟩, HW4.out⟩
  · have : E = 9 ∧ L = [] := by
      cases hD with
      | long h => exact ⟨rfl, rfl⟩
      | bad h => omega
      | range h => omega
      | ok h => omega
    obtain ⟨rfl, rfl⟩ := this
    exact decode_long A n cap xs w hB (by omega)

end Go.Proofs.YtcpcjcbeeeoabaaDoor
