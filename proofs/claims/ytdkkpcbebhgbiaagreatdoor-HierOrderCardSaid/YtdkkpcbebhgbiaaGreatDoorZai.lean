/- The walks over desc.isSign, isPart, strings.Split at one byte, IsClass, and the document's IsClass. -/
import Derived.Test.YtdkkpcbebhgbiaaGreatDoorZah
import Derived.Test.YtdkkpcbebhgbiaaGreatDoorZae
namespace Go.Proofs.YtdkkpcbebhgbiaaGreatDoor
set_option maxRecDepth 100000
open Go.RowKit

theorem ret_bool {a b : Bool} (h : a = b) : Ending.returned (.bool a) = .returned (.bool b) := by rw [h]

theorem isSign_any (x : UInt8) (w : World) : Calls Tryz.prog 207 #[B8 x] w fun e w' => e = .returned (.bool (signB x)) ∧ w = w' := by
  unfold B8
  go_enter Tryz.func207, Tryz.ntmps207
  go_wp2
  all_goals
    go_ret
    refine ⟨ret_bool ?_, rfl⟩
    unfold signB
    rw [Bool.eq_iff_iff]
    simp
    try omega

theorem isPart_any (xs : List UInt8) (w : World) (hl : xs.length ≤ 1048576) : Calls Tryz.prog 165 #[.string (strB xs)] w fun e w' => e = .returned (.bool (partB xs)) ∧ w = w' := by
  have hz := strB_size xs
  have h3 := strB_toList xs
  go_enter Tryz.func165, Tryz.ntmps165
  go_wp2
  go_loop [3, 6] (fun _ i => ∃ k : Nat, k ≤ xs.length ∧ i = .int .i64 (k : Int) ∧ Hid ((xs.take k).all signB = true)) (fun _ i => xs.length - (intOf i).toNat)
  case atStart => exact ⟨0, Nat.zero_le _, rfl, Lib.hid rfl⟩
  case round =>
    obtain ⟨k, hk, rfl, HT⟩ := hrel
    by_cases hlt : k < xs.length
    · obtain ⟨x, hx⟩ : ∃ x, xs[k]? = some x := ⟨_, List.getElem?_eq_getElem hlt⟩
      have h0 : ∀ h, (strB xs)[k]'h = x := fun h => strB_get _ _ _ h hx
      have C := Lib.hid (isSign_any x w)
      have HX := Lib.hid hx
      clear hx
      unfold B8 at C
      cases hs : signB x with
      | true =>
        rw [hs] at C
        have HT2 : Hid ((xs.take (k + 1)).all signB = true) := Lib.hid (by rw [take_one xs k x HX.out, List.all_append, HT.out]; simp [hs])
        clear hs
        go_wp2_with fail
        refine C.out.mono ?_
        rintro e w' ⟨rfl, rfl⟩
        go_wp2
        go_round
        case rel => exact ⟨k + 1, by omega, by go_num, HT2⟩
        case measure => simp [intOf]; omega
      | false =>
        rw [hs] at C
        have HF : Hid (partB xs = false) := Lib.hid (by
          unfold partB
          have : xs.all signB = false := List.all_eq_false.2 ⟨x, List.mem_of_getElem? HX.out, by rw [hs]; exact Bool.false_ne_true⟩
          rw [this]
          simp)
        clear hs
        go_wp2_with fail
        refine C.out.mono ?_
        rintro e w' ⟨rfl, rfl⟩
        go_wp2
        go_ret
        exact ⟨by rw [HF.out]; rfl, rfl⟩
    · have ht : xs.take k = xs := List.take_of_length_le (by omega)
      rw [ht] at HT
      have HE : Hid (partB xs = !xs.isEmpty) := Lib.hid (by unfold partB; rw [HT.out]; simp)
      clear ht
      go_wp2
      all_goals
        go_ret
        exact ⟨ret_bool (by rw [HE.out]; try simp), rfl⟩

/-! ### Split -/
theorem split_none : ∀ xs : List UInt8, xs.idxOf? 47 = none → splitS xs = [xs]
  | [], _ => rfl
  | x :: t, h => by
    rw [List.idxOf?_cons] at h
    by_cases hx : x = 47
    · rw [if_pos (by simpa using hx)] at h; cases h
    · rw [if_neg (by simpa using hx)] at h
      have ht : t.idxOf? 47 = none := by simpa using h
      rw [splitS, if_neg hx, split_none t ht]
theorem split_some : ∀ (xs : List UInt8) (i : Nat), xs.idxOf? 47 = some i → i < xs.length ∧ splitS xs = xs.take i :: splitS (xs.drop (i + 1))
  | [], i, h => by rw [List.idxOf?_nil] at h; cases h
  | x :: t, i, h => by
    rw [List.idxOf?_cons] at h
    by_cases hx : x = 47
    · subst hx
      simp at h
      subst h
      exact ⟨by simp, by rw [splitS, if_pos rfl]; rfl⟩
    · rw [if_neg (by simpa using hx)] at h
      cases hr : t.idxOf? 47 with
      | none => rw [hr] at h; cases h
      | some j =>
        rw [hr] at h
        obtain rfl : j + 1 = i := by simpa using h
        obtain ⟨h1, h2⟩ := split_some t j hr
        exact ⟨by simp; omega, by rw [splitS, if_neg hx, h2]; rfl⟩
theorem split_count : ∀ xs : List UInt8, (splitS xs).length = xs.count 47 + 1
  | [] => rfl
  | x :: t => by
    have ih := split_count t
    rw [splitS]
    by_cases hx : x = 47
    · rw [if_pos hx, hx]; simp [ih]
    · rw [if_neg hx, List.count_cons_of_ne hx]
      rw [← ih]
      cases h : splitS t with
      | nil => exact absurd h (splitS_ne t)
      | cons p ps => rfl
theorem split_one (xs : List UInt8) (h : (splitS xs).length = 1) : splitS xs = [xs] := by
  cases hi : xs.idxOf? 47 with
  | none => exact split_none xs hi
  | some i =>
    have := (split_some xs i hi).2
    rw [this] at h
    have hn := splitS_ne (xs.drop (i + 1))
    cases hs : splitS (xs.drop (i + 1)) with
    | nil => exact absurd hs hn
    | cons p ps => rw [hs] at h; simp at h
theorem split_more (xs : List UInt8) (h : 2 ≤ (splitS xs).length) : ∃ i : Nat, idxI 47 xs = i ∧ i < xs.length ∧ splitS xs = xs.take i :: splitS (xs.drop (i + 1)) := by
  cases hi : xs.idxOf? 47 with
  | none => rw [split_none xs hi] at h; simp at h
  | some i => exact ⟨i, by unfold idxI; rw [hi], split_some xs i hi⟩

/-- A text as a value. -/
def SV (l : List UInt8) : Value := .string (strB l)
theorem Tryz.infoStr : (Tryz.prog.info? 9).map (fun i => (i.zero, i.size, i.bytes)) = some (some (.string ⟨#[]⟩), 1, 16) := by kernel_rfl
/-- A row of texts, some of them still empty. -/
def rowS (done : List (List UInt8)) (m : Nat) : Array Value := (done.map SV ++ List.replicate m (Value.string ⟨#[]⟩)).toArray
theorem rowS_size (done : List (List UInt8)) (m : Nat) : (rowS done m).size = done.length + m := by simp [rowS]
theorem rowS_at (done : List (List UInt8)) (m : Nat) : (rowS done (m + 1))[done.length]? = some (.string ⟨#[]⟩) := by simp [rowS]
theorem rowS_set (done : List (List UInt8)) (m : Nat) (l : List UInt8) : (rowS done (m + 1)).setIfInBounds done.length (SV l) = rowS (done ++ [l]) m := by
  apply Array.ext'
  simp [rowS, List.set_append, List.replicate_succ]
theorem made_strs (n : Nat) : madeCells #[.string ⟨#[]⟩] n = rowS [] n := by
  apply Array.ext_getElem?
  intro i
  by_cases h : i < n
  · simp [rowS, madeCells, h, Nat.mod_one]
  · simp [rowS, madeCells, h]
theorem run_make_strs (n : Nat) (hm : n ≤ 1048576) (W : World) :
    (Instr.makeSlice 42 (.int .i64 (n : Int)) (.int .i64 (n : Int))).run Tryz.prog W = .ok (.slice (some ⟨W.heap.size, 0, none⟩) n n) (W.alloc (.cells (rowS [] n) 9)) := by
  obtain ⟨i0, hi, hz0, hz1, hz2⟩ := info_parts Tryz.infoStr
  have hr := run_make (P := Tryz.prog) W 42 9 i0 (.string ⟨#[]⟩) Tryz.underlying42 hi hz0 .i64 .i64 n n (by omega) (by omega) (by rw [hz2]; omega) (by omega)
  simp only [Int.toNat_natCast, hz1, Nat.mul_one] at hr
  rw [← made_strs]
  exact hr

set_option maxHeartbeats 1000000 in
theorem split_any (xs : List UInt8) (w : World) (hl : xs.length ≤ 1000) :
    Calls Tryz.prog 164 #[.string (strB xs), .string ⟨#[47]⟩] w fun e w' => ∃ n : Nat, n = (splitS xs).length ∧ e = .returned (.slice (some ⟨w.heap.size, 0, none⟩) n n) ∧ Blk w' w.heap.size 9 (rowS (splitS xs) 0) ∧ Below w.heap.size w w' := by
  have hz := strB_size xs
  have hcl : xs.count 47 ≤ xs.length := List.count_le_length
  have HN := Lib.hid (split_count xs)
  have c0 := count_any 47 xs w
  obtain ⟨n, hn⟩ : ∃ n, n = xs.count 47 + 1 := ⟨_, rfl⟩
  have hv : ((xs.count 47 : Nat) : Int) = (n : Int) - 1 := by omega
  rw [hv] at c0
  have C := Lib.hid c0
  rw [← hn] at HN
  have hn1 : 1 ≤ n := by omega
  have hnl : n ≤ xs.length + 1 := by omega
  have hmk := run_make_strs n (by omega)
  have hmin : (if (n : Int) < (xs.length : Int) + 1 then (n : Int) else (xs.length : Int) + 1) = (n : Int) := by split <;> omega
  clear hn hv c0 hcl
  go_enter Tryz.func164, Tryz.ntmps164
  go_wp2_with (first | (go_at_call 230; (with_reducible refine C.out.mono ?_); rintro e w' ⟨rfl, rfl⟩) | go_in)
  obtain ⟨g, hg⟩ : ∃ g, g = w.heap.size := ⟨_, rfl⟩
  rw [← hg]
  have HG := Lib.hid hg
  have hb0 : Blk (w.alloc (.cells (rowS [] n) 9)) g 9 (rowS [] n) := by rw [hg]; exact Blk.new _ _ _
  have hB0 : Below g w (w.alloc (.cells (rowS [] n) 9)) := (Below.refl _ _).alloc (by omega) _
  clear hg hmk hmin
  go_loopw [0, 10] (fun s i wr => ∃ (k : Nat) (ys : List UInt8) (done : List (List UInt8)), s = .string (strB ys) ∧ i = .int .i64 (k : Int) ∧ k + 1 ≤ n ∧ ys.length ≤ xs.length ∧ Hid (done.length = k) ∧ Hid (splitS xs = done ++ splitS ys) ∧ Blk wr g 9 (rowS done (n - k)) ∧ Below g w wr) (fun _ i _ => n - (intOf i).toNat)
  case atStart => exact ⟨0, xs, [], rfl, rfl, by omega, Nat.le_refl _, Lib.hid rfl, Lib.hid rfl, hb0, hB0⟩
  case round =>
    clear hb0 hB0 hz
    obtain ⟨k, ys, done, rfl, rfl, hkn, hyl, HK, HS, hb, hB⟩ := hrel
    have hzy := strB_size ys
    have hgl := hb.lt
    have HB := Lib.hid hB
    have hfr := hb.frozen k
    have hce : wr.cell? ⟨g, k, none⟩ = some (.string ⟨#[]⟩) := by
      rw [hb.cell k, ← HK.out, show n - done.length = (n - done.length - 1) + 1 by have := HK.out; omega]
      exact rowS_at _ _
    have HBk := Lib.hid hb
    clear hb hB
    by_cases hlt : k + 1 < n
    · have h2 : 2 ≤ (splitS ys).length := by
        have h := HN.out
        rw [HS.out, List.length_append, HK.out] at h
        omega
      obtain ⟨i, hi, hil, hs⟩ := split_more ys h2
      have c2 := index_any 47 ys wr
      rw [hi] at c2
      have C2 := Lib.hid c2
      have he1 := strB_to ys i
      have he2 := strB_from ys (i + 1)
      have hB2 : Hid (Blk (wr.setCell ⟨g, k, none⟩ (SV (ys.take i))) g 9 (rowS (done ++ [ys.take i]) (n - (k + 1)))) := Lib.hid (by
        have := HBk.out.set_ k (SV (ys.take i))
        rw [show n - k = (n - (k + 1)) + 1 by omega, ← HK.out, rowS_set] at this
        rw [← HK.out]
        exact this)
      have HS2 : Hid (splitS xs = (done ++ [ys.take i]) ++ splitS (ys.drop (i + 1))) := Lib.hid (by rw [HS.out, hs]; simp)
      have HK2 : Hid ((done ++ [ys.take i]).length = k + 1) := Lib.hid (by rw [List.length_append, HK.out]; rfl)
      clear hi c2 hs h2 HK
      unfold SV at hB2
      go_wp2_with fail
      refine C2.out.mono ?_
      rintro e w' ⟨rfl, rfl⟩
      go_wp2
      go_roundw
      case rel => exact ⟨k + 1, ys.drop (i + 1), done ++ [ys.take i], rfl, by go_num, by omega, by rw [List.length_drop]; omega, HK2, HS2, hB2.out, HB.out.setCell (Nat.le_refl _) _⟩
      case measure => simp [intOf]; omega
    · have h1 : (splitS ys).length = 1 := by
        have h := HN.out
        rw [HS.out, List.length_append, HK.out] at h
        omega
      have hs := split_one ys h1
      have hB2 : Hid (Blk (wr.setCell ⟨g, k, none⟩ (SV ys)) g 9 (rowS (splitS xs) 0)) := Lib.hid (by
        have := HBk.out.set_ k (SV ys)
        rw [show n - k = 0 + 1 by omega, ← HK.out, rowS_set] at this
        rw [HS.out, hs, ← HK.out]
        exact this)
      have HN2 := Lib.hid HN.out.symm
      clear h1 hs HK
      unfold SV at hB2
      obtain rfl : n = k + 1 := by omega
      go_wp2
      go_ret
      exact ⟨k + 1, HN2.out, by rw [← HG.out]; rfl, by rw [← HG.out]; exact hB2.out, by rw [← HG.out]; exact HB.out.setCell (p := ⟨g, k, none⟩) (Nat.le_refl _) _⟩

theorem sv_len : ∀ l, ([SV l] : List Value).length = 1 := fun _ => rfl
theorem flat1 : ∀ l : List (List UInt8), (l.flatMap fun l => [SV l]) = l.map SV
  | [] => rfl
  | x :: l => by rw [List.flatMap_cons, flat1 l]; rfl
theorem rowS_cell {w : World} {g : Nat} {l : List (List UInt8)} {k : Nat} {p : List UInt8} (h : Blk w g 9 (rowS l 0)) (hp : l[k]? = some p) : w.cell? ⟨g, k, none⟩ = some (.string (strB p)) := by
  rw [h.cell k]
  simp [rowS, hp, SV]
theorem split_lens : ∀ (xs : List UInt8), ∀ p ∈ splitS xs, p.length ≤ xs.length
  | [], p, h => by simp [splitS] at h; simp [h]
  | x :: t, p, h => by
    have ih := split_lens t
    rw [splitS] at h
    by_cases hx : x = 47
    · rw [if_pos hx] at h
      rcases List.mem_cons.1 h with rfl | h
      · simp
      · have := ih p h; simp; omega
    · rw [if_neg hx] at h
      cases hs : splitS t with
      | nil => exact absurd hs (splitS_ne t)
      | cons q qs =>
        rw [hs] at h ih
        rcases List.mem_cons.1 h with rfl | h
        · have := ih q (by simp); simp; omega
        · have := ih p (by simp [h]); simp; omega
theorem rowS_sl {w : World} {g n : Nat} {l : List (List UInt8)} (h : Blk w g 9 (rowS l 0)) (hn : l.length = n) (hm : n ≤ maxLen) : RowSl (fun l => [SV l]) 1 w Empty (some ⟨g, 0, none⟩) n n l :=
  RowSl.of_blk sv_len h hn (Nat.le_refl _) hm (fun j hj => by simp [rowS, flat1]) (fun h => h)

set_option maxHeartbeats 1000000 in
theorem isClass_any (xs : List UInt8) (w : World) (hl : xs.length ≤ 1048576) :
    Calls Tryz.prog 109 #[.string (strB xs)] w fun e w' => e = .returned (.bool (classB xs)) ∧ Below w.heap.size w w' := by
  have hz := strB_size xs
  by_cases h64 : xs.length ≤ 64
  · have HC := Lib.hid (classB_split xs h64)
    have C := Lib.hid (split_any xs w (by omega))
    have hnl : (splitS xs).length ≤ 65 := by rw [split_count]; have : xs.count 47 ≤ xs.length := List.count_le_length; omega
    have hpl : ∀ p ∈ splitS xs, p.length ≤ 64 := fun p hp => Nat.le_trans (split_lens xs p hp) h64
    have HP := Lib.hid hpl
    clear hpl
    go_enter Tryz.func109, Tryz.ntmps109
    go_wp2_with fail
    refine C.out.mono ?_
    rintro e w1 ⟨n, hn, rfl, hb, hbel⟩
    have hn65 : n ≤ 65 := by omega
    have HN := Lib.hid hn
    have HB := Lib.hid hbel
    obtain ⟨g, hg⟩ : ∃ g, g = w.heap.size := ⟨_, rfl⟩
    have hb' : Blk w1 g 9 (rowS (splitS xs) 0) := by rw [hg]; exact hb
    rw [← hg]
    have HBk := Lib.hid hb'
    clear hn hb hbel hb' hg hnl
    go_wp2
    go_loop [4, 11] (fun _ i => ∃ k : Nat, k ≤ n ∧ i = .int .i64 (k : Int) ∧ Hid (((splitS xs).take k).all partB = true)) (fun _ i => n - (intOf i).toNat)
    case atStart => exact ⟨0, Nat.zero_le _, rfl, Lib.hid rfl⟩
    case round =>
      clear hz
      obtain ⟨k, hk, rfl, HT⟩ := hrel
      by_cases hlt : k < n
      · obtain ⟨p, hp⟩ : ∃ p, (splitS xs)[k]? = some p := ⟨_, List.getElem?_eq_getElem (by have := HN.out; omega)⟩
        have hce := rowS_cell HBk.out hp
        have hpm := List.mem_of_getElem? hp
        have C2 := Lib.hid (isPart_any p w1 (by have := HP.out p hpm; omega))
        have HPM := Lib.hid hpm
        have HPK := Lib.hid hp
        clear hp hpm
        cases hs : partB p with
        | true =>
          rw [hs] at C2
          have HT2 : Hid (((splitS xs).take (k + 1)).all partB = true) := Lib.hid (by rw [take_one _ k p HPK.out, List.all_append, HT.out]; simp [hs])
          clear hs
          go_wp2_with fail
          refine C2.out.mono ?_
          rintro e w' ⟨rfl, rfl⟩
          go_wp2
          go_round
          case rel => exact ⟨k + 1, by omega, by go_num, HT2⟩
          case measure => simp [intOf]; omega
        | false =>
          rw [hs] at C2
          have HF : Hid (classB xs = false) := Lib.hid (by
            rw [HC.out]
            exact List.all_eq_false.2 ⟨p, HPM.out, by rw [hs]; exact Bool.false_ne_true⟩)
          clear hs
          go_wp2_with fail
          refine C2.out.mono ?_
          rintro e w' ⟨rfl, rfl⟩
          go_wp2
          go_ret
          exact ⟨by rw [HF.out]; rfl, HB.out⟩
      · have ht : (splitS xs).take k = splitS xs := List.take_of_length_le (by have := HN.out; omega)
        rw [ht] at HT
        have HE : Hid (classB xs = true) := Lib.hid (HC.out.trans HT.out)
        clear ht
        go_wp2
        go_ret
        exact ⟨by rw [HE.out]; rfl, HB.out⟩
  · have HC : Hid (classB xs = false) := Lib.hid (by unfold classB; simp [h64])
    go_enter Tryz.func109, Tryz.ntmps109
    go_wp2
    go_ret
    exact ⟨by rw [HC.out]; rfl, Below.refl _ _⟩

end Go.Proofs.YtdkkpcbebhgbiaaGreatDoor

/- The walk over the document's IsClass. -/
namespace Go.Proofs.YtdkkpcbebhgbiaaGreatDoor
set_option maxRecDepth 100000
open Go.RowKit

theorem sign_yes (x : UInt8) (h : signB x = true) : (97 ≤ x.toNat ∧ x.toNat ≤ 122) ∨ (65 ≤ x.toNat ∧ x.toNat ≤ 90) ∨ (48 ≤ x.toNat ∧ x.toNat ≤ 57) ∨ (95 ≤ x.toNat ∧ x.toNat ≤ 95) ∨ (36 ≤ x.toNat ∧ x.toNat ≤ 36) := by
  unfold signB at h
  have := of_decide_eq_true h
  omega
theorem sign_no (x : UInt8) (h : signB x = false) : x.toNat ≤ 35 ∨ (37 ≤ x.toNat ∧ x.toNat ≤ 47) ∨ (58 ≤ x.toNat ∧ x.toNat ≤ 64) ∨ (91 ≤ x.toNat ∧ x.toNat ≤ 94) ∨ (96 ≤ x.toNat ∧ x.toNat ≤ 96) ∨ (123 ≤ x.toNat) := by
  unfold signB at h
  have := of_decide_eq_false h
  omega
theorem eqB {a b : Nat} (h : a = b) : ((a : Int) == (b : Int)) = true := by rw [h]; simp
theorem neB {a b : Nat} (h : a ≠ b) : ((a : Int) == (b : Int)) = false := by rw [beq_eq_false_iff_ne]; omega

set_option maxHeartbeats 4000000 in
theorem refIsClass_any (xs : List UInt8) (w : World) (hl : xs.length ≤ 1048576) :
    Calls Tryz.prog 81 #[.string (strB xs)] w fun e w' => e = .returned (.bool (classB xs)) ∧ w = w' := by
  have hz := strB_size xs
  go_enter Tryz.func81, Tryz.ntmps81
  go_wp2
  go_loop [3, 4] (fun v i => ∃ k l : Nat, k ≤ xs.length ∧ l ≤ 255 ∧ v = .int .u8 (l : Int) ∧ i = .int .i64 (k : Int) ∧ Hid (classGo true xs = classGo (decide (l = 47)) (xs.drop k))) (fun _ i => xs.length - (intOf i).toNat)
  case atStart => exact ⟨0, 47, Nat.zero_le _, by omega, rfl, rfl, Lib.hid rfl⟩
  case round =>
    obtain ⟨k, l, hk, hl255, rfl, rfl, HT⟩ := hrel
    by_cases hlt : k < xs.length
    · obtain ⟨x, hx⟩ : ∃ x, xs[k]? = some x := ⟨_, List.getElem?_eq_getElem hlt⟩
      have hd : xs.drop k = x :: xs.drop (k + 1) := by
        rw [List.drop_eq_getElem_cons hlt]
        congr 1
        rw [List.getElem?_eq_getElem hlt] at hx
        exact Option.some.inj hx
      have hx255 := byte_lt x
      have h0 : ∀ h, (strB xs)[k]'h = x := fun h => strB_get _ _ _ h hx
      rw [hd] at HT
      clear hx hd
      cases hs : signB x with
      | true =>
        have HT2 : Hid (classGo true xs = classGo (decide (x.toNat = 47)) (xs.drop (k + 1))) := Lib.hid (by
          rw [HT.out, classGo, hs, if_pos rfl]
          congr 1
          have := sign_yes x hs
          have h47 : x.toNat ≠ 47 := by omega
          simp [h47])
        rcases sign_yes x hs with h | h | h | h | h
        all_goals
          obtain ⟨ha, hb⟩ := h
          clear hs
          first
            | (have q : ((x.toNat : Int) == 95) = true := eqB (b := 95) (by omega))
            | (have q : ((x.toNat : Int) == 95) = false := neB (b := 95) (by omega))
          first
            | (have q2 : ((x.toNat : Int) == 36) = true := eqB (b := 36) (by omega))
            | (have q2 : ((x.toNat : Int) == 36) = false := neB (b := 36) (by omega))
          go_wp2
          go_round
          case rel => exact ⟨k + 1, x.toNat, by omega, by omega, rfl, by go_num, HT2⟩
          case measure => simp [intOf]; omega
      | false =>
        have hn := sign_no x hs
        by_cases h47 : x = 47
        · subst h47
          clear hn hs hx255
          have h47s : signB 47 = false := by decide
          have e47 : (47 : UInt8).toNat = 47 := rfl
          cases hb : decide (l = 47) with
          | true =>
            have hl47 : l = 47 := of_decide_eq_true hb
            have HF : Hid (classB xs = false) := Lib.hid (by
              unfold classB
              rw [HT.out, classGo, h47s, if_neg Bool.false_ne_true, if_pos rfl, hb]
              simp)
            subst hl47
            clear hb h47s
            go_wp2
            go_ret
            exact ⟨by rw [HF.out]; rfl, rfl⟩
          | false =>
            have hl47 : l ≠ 47 := of_decide_eq_false hb
            have q : ((l : Int) == 47) = false := neB (b := 47) hl47
            have HT2 : Hid (classGo true xs = classGo (decide (47 = 47)) (xs.drop (k + 1))) := Lib.hid (by
              rw [HT.out, classGo, h47s, if_neg Bool.false_ne_true, if_pos rfl, hb]
              rfl)
            clear hb hl47 h47s
            go_wp2
            go_round
            case rel => exact ⟨k + 1, 47, by omega, by omega, rfl, by go_num, HT2⟩
            case measure => simp [intOf]; omega
        · have HF : Hid (classB xs = false) := Lib.hid (by
            unfold classB
            rw [HT.out, classGo, hs, if_neg Bool.false_ne_true, if_neg h47]
            simp)
          have h47n : x.toNat ≠ 47 := fun e => h47 (UInt8.toNat_inj.1 e)
          have q0 : ((x.toNat : Int) == 47) = false := neB (b := 47) h47n
          have q1 : ((x.toNat : Int) != 47) = true := by rw [bne, q0]; rfl
          have q : ((x.toNat : Int) == 95) = false := neB (b := 95) (by omega)
          have q2 : ((x.toNat : Int) == 36) = false := neB (b := 36) (by omega)
          rcases hn with h | h | h | h | h | h
          all_goals
            clear hs h47 h47n
            try obtain ⟨ha, hb⟩ := h
            first
              | (have r1 : decide ((x.toNat : Int) ≤ 57) = false := decide_eq_false (by omega))
              | skip
            first
              | (have r2 : decide ((x.toNat : Int) ≤ 90) = false := decide_eq_false (by omega))
              | skip
            first
              | (have r3 : decide ((x.toNat : Int) ≤ 122) = false := decide_eq_false (by omega))
              | skip
            go_wp2
            go_ret
            exact ⟨by rw [HF.out]; rfl, rfl⟩
    · obtain rfl : k = xs.length := by omega
      rw [List.drop_length] at HT
      by_cases h64 : xs.length ≤ 64
      · have HE : Hid (classB xs = !decide (l = 47)) := Lib.hid (by
          unfold classB
          rw [HT.out]
          simp [h64, classGo])
        cases hb : decide (l = 47) with
        | true =>
          have hl47 : l = 47 := of_decide_eq_true hb
          rw [hb] at HE
          subst hl47
          clear hb
          go_wp2
          go_ret
          exact ⟨by rw [HE.out]; rfl, rfl⟩
        | false =>
          have hl47 : l ≠ 47 := of_decide_eq_false hb
          rw [hb] at HE
          have q : ((l : Int) == 47) = false := neB (b := 47) hl47
          have q1 : ((l : Int) != 47) = true := by rw [bne, q]; rfl
          clear hb hl47
          go_wp2
          go_ret
          exact ⟨by rw [HE.out]; rfl, rfl⟩
      · have HE : Hid (classB xs = false) := Lib.hid (by unfold classB; simp [h64])
        go_wp2
        go_ret
        exact ⟨by rw [HE.out]; rfl, rfl⟩

end Go.Proofs.YtdkkpcbebhgbiaaGreatDoor
