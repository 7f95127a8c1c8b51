/- The walks over pool.Member and the document's is, Text, Class, Member. -/
import Derived.Test.YtinkjeifkjfkgaaVb
namespace Go.Proofs.Ytinkjeifkjfkgaa
set_option maxRecDepth 100000
open Go.RowKit

/-- What Member answers. -/
def memberV (r : Option (List UInt8 × List UInt8 × List UInt8)) : Value := match r with
  | some x => .tuple #[.string (strB x.1), .string (strB x.2.1), .string (strB x.2.2), .bool true]
  | none => .tuple #[.string (strB []), .string (strB []), .string (strB []), .bool false]
theorem namesW_eq (l : List Cst) (p : Int) : namesF l p = if (namesW l p).2.2 = true then some ((namesW l p).1, (namesW l p).2.1) else none := by
  unfold namesF namesW
  cases h : findF l p 12 with
  | none => simp
  | some c =>
    cases h1 : textF l c.a <;> cases h2 : textF l c.b <;> simp [h1, h2, textD]
theorem memberF_eq (l : List Cst) (p t : Int) (ht : t = 9 ∨ t = 10) : memberF l p t =
    if ((findF l p t).isSome && (classF l ((findF l p t).getD zeroC).a).isSome && (namesW l ((findF l p t).getD zeroC).b).2.2) = true then
      some (textD (classF l ((findF l p t).getD zeroC).a), (namesW l ((findF l p t).getD zeroC).b).1, (namesW l ((findF l p t).getD zeroC).b).2.1) else none := by
  unfold memberF
  rw [if_neg (by omega)]
  cases h : findF l p t with
  | none => simp
  | some c =>
    cases h1 : classF l c.a with
    | none => simp [h1]
    | some k =>
      cases h2 : (namesW l c.b).2.2 <;> simp [h1, h2, namesW_eq, textD]

theorem member_no (A : Option Addr) (n cap : Nat) (l : List Cst) (p t : Int) (w : World) (ht : t ≠ 9 ∧ t ≠ 10) :
    Calls Try.prog 18 #[.slice A n cap, .int .i64 p, .int .i64 t] w fun e w' => e = .returned (memberV (memberF l p t)) ∧ Below w.heap.size w w' := by
  have HE : Hid (memberF l p t = none) := Lib.hid (by unfold memberF; exact if_pos ht)
  have h9 : (t != 9) = true := by simpa using ht.1
  have h10 : (t != 10) = true := by simpa using ht.2
  clear ht
  go_enter Try.func18, Try.ntmps18
  go_wp2
  refine bodyPost_ret (v := memberV none) (by simp [results, Try.results18, go_sem, memberV, strB]) rfl ⟨by rw [HE.out], Below.refl _ _⟩

theorem member_yes (A : Option Addr) (n cap : Nat) (l : List Cst) (p t : Int) (w : World) (hP : PoolSl w A n cap l) (hn : n ≤ 1000000) (ht : t = 9 ∨ t = 10) :
    Calls Try.prog 18 #[.slice A n cap, .int .i64 p, .int .i64 t] w fun e w' => e = .returned (memberV (memberF l p t)) ∧ Below w.heap.size w w' := by
  have C := find_any A n cap l p t w hP hn
  have E := memberF_eq l p t ht
  rw [foundV_eq] at C
  obtain ⟨c, hc⟩ : ∃ c, (findF l p t).getD zeroC = c := ⟨_, rfl⟩
  obtain ⟨B, hB⟩ : ∃ B, (findF l p t).isSome = B := ⟨_, rfl⟩
  rw [hc, hB] at C E
  have HE := Lib.hid E
  have CT : Hid (∀ q W, Below w.heap.size w W → Calls Try.prog 16 #[.slice A n cap, .int .i64 q] W fun e w' => e = .returned (textV (classF l q)) ∧ Below W.heap.size W w') :=
    Lib.hid (fun q W hb => class_any A n cap l q W (hP.below hb) hn)
  have CN : Hid (∀ q W, Below w.heap.size w W → Calls Try.prog 29 #[.slice A n cap, .int .i64 q] W fun e w' => e = .returned (namesV (namesW l q)) ∧ Below W.heap.size W w') :=
    Lib.hid (fun q W hb => names_any A n cap l q W (hP.below hb) hn)
  have C := Lib.hid C
  clear hc hB E
  rcases ht with rfl | rfl
  all_goals
    clear hP
    go_enter Try.func18, Try.ntmps18
    go_wp2_with fail
    refine C.out.mono ?_
    rintro e w1 ⟨rfl, hb⟩
    have HK : Hid (Blk (w1.alloc (.cells c.cells.toArray 41)) w1.heap.size 41 c.cells.toArray) := Lib.hid (Blk.new _ _ _)
    have Hb := Lib.hid (hb.alloc hb.size (.cells c.cells.toArray 41))
    clear hb
    simp only [Cst.v]
    go_wp2_with fail
    refine (CT.out _ _ Hb.out).mono ?_
    rintro e w2 ⟨rfl, hb2⟩
    have HK2 := Lib.hid (HK.out.of (hb2.block _ (by simp)))
    have hk2 : w2.cell? ⟨w1.heap.size, 2, none⟩ = some (.int .i64 c.b) := HK2.out.cell 2
    have Hb2 := Lib.hid (Hb.out.trans (hb2.mono Hb.out.size))
    clear hb2
    rw [textV_eq]
    go_wp2_with fail
    refine (CN.out _ _ Hb2.out).mono ?_
    rintro e w3 ⟨rfl, hb3⟩
    have Hb3 := Lib.hid (Hb2.out.trans (hb3.mono Hb2.out.size))
    clear hb3
    rw [namesV]
    obtain ⟨X, hX⟩ : ∃ X, (classF l c.a).isSome = X := ⟨_, rfl⟩
    obtain ⟨Y, hY⟩ : ∃ Y, (namesW l c.b).2.2 = Y := ⟨_, rfl⟩
    rw [hX, hY] at HE
    rw [hX, hY]
    clear hX hY
    cases B <;> cases X <;> cases Y
    all_goals
      go_wp2
      refine bodyPost_ret (v := memberV (memberF l p _)) (by rw [HE.out]; simp [results, Try.results18, go_sem, memberV, strB]) rfl ⟨rfl, Hb3.out⟩

theorem member_any (A : Option Addr) (n cap : Nat) (l : List Cst) (p t : Int) (w : World) (hP : PoolSl w A n cap l) (hn : n ≤ 1000000) :
    Calls Try.prog 18 #[.slice A n cap, .int .i64 p, .int .i64 t] w fun e w' => e = .returned (memberV (memberF l p t)) ∧ Below w.heap.size w w' := by
  by_cases h : t = 9 ∨ t = 10
  · exact member_yes A n cap l p t w hP hn h
  · exact member_no A n cap l p t w (by omega)

/-! ### The document's -/
theorem is_any (A : Option Addr) (n cap : Nat) (l : List Cst) (p t : Int) (w : World) (hP : PoolSl w A n cap l) (hn : n ≤ 1000000) :
    Calls Try.prog 28 #[.slice A n cap, .int .i64 p, .int .i64 t] w fun e w' => e = .returned (.bool (isF l p t)) ∧ w = w' := by
  rcases pool_ways hP p with ⟨k, b, o, c, rfl, h1, h2, rfl, hc, hb, h0, -⟩ | ⟨h, hc⟩
  · have HE : Hid (isF l (k : Int) t = (c.tag == t)) := Lib.hid (by unfold isF; rw [hc])
    clear hP hc
    go_enter Try.func28, Try.ntmps28
    go_wp2
    go_ret
    exact ⟨by rw [HE.out]; rfl, rfl⟩
  · have HE : Hid (isF l p t = false) := Lib.hid (by unfold isF; rw [hc])
    clear hP hc
    by_cases h1 : 1 ≤ p
    · have h2 : decide (p < (n : Int)) = false := decide_eq_false (by omega)
      clear h
      go_enter Try.func28, Try.ntmps28
      go_wp2
      go_ret
      exact ⟨by rw [HE.out]; rfl, rfl⟩
    · have h2 : decide (1 ≤ p) = false := decide_eq_false h1
      clear h
      go_enter Try.func28, Try.ntmps28
      go_wp2
      go_ret
      exact ⟨by rw [HE.out]; rfl, rfl⟩

theorem isF_yes {l : List Cst} {p t : Int} (h : isF l p t = true) : ∃ c, atF l p = some c ∧ c.tag = t ∧ findF l p t = some c := by
  unfold isF at h
  cases hc : atF l p with
  | none => rw [hc] at h; simp at h
  | some c =>
    rw [hc] at h
    have ht : c.tag = t := by simpa using h
    exact ⟨c, rfl, ht, by unfold findF; rw [hc]; exact if_pos ht⟩
theorem isF_no {l : List Cst} {p t : Int} (h : isF l p t = false) : findF l p t = none := by
  have := isF_find l p t
  rw [h] at this
  cases hf : findF l p t with
  | none => rfl
  | some c => rw [hf] at this; simp at this

theorem refText_any (A : Option Addr) (n cap : Nat) (l : List Cst) (p : Int) (w : World) (hP : PoolSl w A n cap l) (hn : n ≤ 1000000) :
    Calls Try.prog 15 #[.slice A n cap, .int .i64 p] w fun e w' => e = .returned (textV (textF l p)) ∧ w = w' := by
  have C := is_any A n cap l p 1 w hP hn
  cases hi : isF l p 1 with
  | false =>
    have HE : Hid (textF l p = none) := Lib.hid (by unfold textF; rw [isF_no hi]; rfl)
    rw [hi] at C
    have C := Lib.hid C
    clear hi hP
    go_enter Try.func15, Try.ntmps15
    go_wp2_with fail
    refine C.out.mono ?_
    rintro e w1 ⟨rfl, rfl⟩
    go_wp2
    go_ret2
    exact ⟨by rw [HE.out]; rfl, rfl⟩
  | true =>
    obtain ⟨c, hc, ht, hf⟩ := isF_yes hi
    have HE : Hid (textF l p = some c.s) := Lib.hid (by unfold textF; rw [hf]; rfl)
    rw [hi] at C
    have C := Lib.hid C
    rcases pool_ways hP p with ⟨k, b, o, c', rfl, h1, h2, rfl, hc', hb, h0, h3, h4, h5, h6⟩ | ⟨h, hc'⟩
    · obtain rfl : c = c' := by rw [hc] at hc'; exact Option.some.inj hc'
      clear hi hP hc hc' hf ht
      go_enter Try.func15, Try.ntmps15
      go_wp2_with fail
      refine C.out.mono ?_
      rintro e w1 ⟨rfl, rfl⟩
      go_wp2
      go_ret2
      exact ⟨by rw [HE.out]; rfl, rfl⟩
    · rw [hc] at hc'
      exact absurd hc' (by simp)

theorem refClass_any (A : Option Addr) (n cap : Nat) (l : List Cst) (p : Int) (w : World) (hP : PoolSl w A n cap l) (hn : n ≤ 1000000) :
    Calls Try.prog 17 #[.slice A n cap, .int .i64 p] w fun e w' => e = .returned (textV (classF l p)) ∧ w = w' := by
  have C := is_any A n cap l p 7 w hP hn
  cases hi : isF l p 7 with
  | false =>
    have HE : Hid (classF l p = none) := Lib.hid (by unfold classF; rw [isF_no hi])
    rw [hi] at C
    have C := Lib.hid C
    clear hi hP
    go_enter Try.func17, Try.ntmps17
    go_wp2_with fail
    refine C.out.mono ?_
    rintro e w1 ⟨rfl, rfl⟩
    go_wp2
    go_ret2
    exact ⟨by rw [HE.out]; rfl, rfl⟩
  | true =>
    obtain ⟨c, hc, ht, hf⟩ := isF_yes hi
    have HE : Hid (classF l p = textF l c.a) := Lib.hid (by unfold classF; rw [hf])
    rw [hi] at C
    have C := Lib.hid C
    have CT := Lib.hid (refText_any A n cap l c.a w hP hn)
    rcases pool_ways hP p with ⟨k, b, o, c', rfl, h1, h2, rfl, hc', hb, h0, h3, h4, h5, h6⟩ | ⟨h, hc'⟩
    · obtain rfl : c = c' := by rw [hc] at hc'; exact Option.some.inj hc'
      clear hi hP hc hc' hf ht
      go_enter Try.func17, Try.ntmps17
      go_wp2_with fail
      refine C.out.mono ?_
      rintro e w1 ⟨rfl, rfl⟩
      go_wp2_with fail
      refine CT.out.mono ?_
      rintro e w1 ⟨rfl, rfl⟩
      rw [textV_eq]
      go_wp2
      go_ret2
      exact ⟨by rw [HE.out, textV_eq]; rfl, rfl⟩
    · rw [hc] at hc'
      exact absurd hc' (by simp)

theorem atF_place {w : World} {A : Option Addr} {n cap : Nat} {l : List Cst} (hP : PoolSl w A n cap l) {p : Int} {c : Cst} (h : atF l p = some c) :
    ∃ (k b o : Nat), p = (k : Int) ∧ 1 ≤ k ∧ k < n ∧ A = some ⟨b, o, none⟩ ∧ b < w.heap.size ∧ w.cell? ⟨b, o + k * 5, none⟩ = some (.int .i64 c.tag) ∧ w.cell? ⟨b, o + k * 5 + 1, none⟩ = some (.int .i64 c.a) ∧ w.cell? ⟨b, o + k * 5 + 2, none⟩ = some (.int .i64 c.b) ∧ w.cell? ⟨b, o + k * 5 + 3, none⟩ = some (.int .i64 c.n) ∧ w.cell? ⟨b, o + k * 5 + 4, none⟩ = some (.string (strB c.s)) := by
  rcases pool_ways hP p with ⟨k, b, o, c', rfl, h1, h2, rfl, hc', r⟩ | ⟨h', hc'⟩
  · obtain rfl : c = c' := by rw [h] at hc'; exact Option.some.inj hc'
    exact ⟨k, b, o, rfl, h1, h2, rfl, r⟩
  · rw [h] at hc'
    exact absurd hc' (by simp)

theorem refMember_no (A : Option Addr) (n cap : Nat) (l : List Cst) (p t : Int) (w : World) (ht : t ≠ 9 ∧ t ≠ 10) :
    Calls Try.prog 19 #[.slice A n cap, .int .i64 p, .int .i64 t] w fun e w' => e = .returned (memberV (memberF l p t)) ∧ Below w.heap.size w w' := by
  have HE : Hid (memberF l p t = none) := Lib.hid (by unfold memberF; exact if_pos ht)
  have h9 : (t != 9) = true := by simpa using ht.1
  have h10 : (t != 10) = true := by simpa using ht.2
  clear ht
  go_enter Try.func19, Try.ntmps19
  go_wp2
  refine bodyPost_ret (v := memberV none) (by simp [results, Try.results19, go_sem, memberV, strB]) rfl ⟨by rw [HE.out], Below.refl _ _⟩

set_option maxHeartbeats 2000000 in
theorem refMember_yes (A : Option Addr) (n cap : Nat) (l : List Cst) (p t : Int) (w : World) (hP : PoolSl w A n cap l) (hn : n ≤ 1000000) (ht : t = 9 ∨ t = 10) :
    Calls Try.prog 19 #[.slice A n cap, .int .i64 p, .int .i64 t] w fun e w' => e = .returned (memberV (memberF l p t)) ∧ Below w.heap.size w w' := by
  have C := is_any A n cap l p t w hP hn
  have hm : ∀ {r}, memberF l p t = r → ¬ (t ≠ 9 ∧ t ≠ 10) := fun _ h => by omega
  cases hi : isF l p t with
  | false =>
    have HE : Hid (memberF l p t = none) := Lib.hid (by unfold memberF; rw [if_neg (by omega), isF_no hi])
    rw [hi] at C
    have C := Lib.hid C
    clear hi hP hm
    rcases ht with rfl | rfl
    all_goals
      go_enter Try.func19, Try.ntmps19
      go_wp2_with fail
      refine C.out.mono ?_
      rintro e w1 ⟨rfl, rfl⟩
      go_wp2
      refine bodyPost_ret (v := memberV none) (by simp [results, Try.results19, go_sem, memberV, strB]) rfl ⟨by rw [HE.out], Below.refl _ _⟩
  | true =>
    obtain ⟨c, hc, htt, hf⟩ := isF_yes hi
    rw [hi] at C
    have C := Lib.hid C
    have C2 := is_any A n cap l c.b 12 w hP hn
    obtain ⟨k, b, o, rfl, h1, h2, rfl, hb, h0, h3, h4, h5, h6⟩ := atF_place hP hc
    cases hi2 : isF l c.b 12 with
    | false =>
      have HE : Hid (memberF l (k : Int) t = none) := Lib.hid (by
        unfold memberF
        rw [if_neg (by omega), hf]
        have : namesF l c.b = none := by unfold namesF; rw [isF_no hi2]
        simp only [this]
        cases classF l c.a <;> rfl)
      rw [hi2] at C2
      have C2 := Lib.hid C2
      clear hi hP hm hi2 hf htt hc
      rcases ht with rfl | rfl
      all_goals
        go_enter Try.func19, Try.ntmps19
        go_wp2_with fail
        refine C.out.mono ?_
        rintro e w1 ⟨rfl, rfl⟩
        go_wp2_with fail
        refine C2.out.mono ?_
        rintro e w1 ⟨rfl, rfl⟩
        go_wp2
        refine bodyPost_ret (v := memberV none) (by simp [results, Try.results19, go_sem, memberV, strB]) rfl ⟨by rw [HE.out], Below.refl _ _⟩
    | true =>
      obtain ⟨d, hd, hdt, hdf⟩ := isF_yes hi2
      rw [hi2] at C2
      have C2 := Lib.hid C2
      have CC : Hid (∀ W, Below w.heap.size w W → Calls Try.prog 17 #[.slice (some ⟨b, o, none⟩) n cap, .int .i64 c.a] W fun e w' => e = .returned (textV (classF l c.a)) ∧ W = w') :=
        Lib.hid (fun W hb => refClass_any _ n cap l c.a W (hP.below hb) hn)
      have CT : Hid (∀ q W, Below w.heap.size w W → Calls Try.prog 15 #[.slice (some ⟨b, o, none⟩) n cap, .int .i64 q] W fun e w' => e = .returned (textV (textF l q)) ∧ W = w') :=
        Lib.hid (fun q W hb => refText_any _ n cap l q W (hP.below hb) hn)
      have hd' := atF_place hP hd
      have HE : Hid (memberF l (k : Int) t = if ((classF l c.a).isSome && (textF l d.a).isSome && (textF l d.b).isSome) = true then some (textD (classF l c.a), textD (textF l d.a), textD (textF l d.b)) else none) := Lib.hid (by
        unfold memberF namesF
        rw [if_neg (by omega), hf]
        simp only [hdf]
        cases classF l c.a <;> cases textF l d.a <;> cases textF l d.b <;> simp [textD])
      obtain ⟨k2, b2, o2, hk2, g1, g2, hA2, -, g0, g3, g4, g5, g6⟩ := hd'
      obtain ⟨rfl, rfl⟩ : b = b2 ∧ o = o2 := by simpa using hA2
      have Hk2 := Lib.hid hk2
      rw [hk2] at C2 h4
      clear hi hP hm hi2 hf htt hc hd hdt hdf hA2 hk2
      obtain ⟨K, hK⟩ : ∃ K, classF l c.a = K := ⟨_, rfl⟩
      obtain ⟨X, hX⟩ : ∃ X, textF l d.a = X := ⟨_, rfl⟩
      obtain ⟨Y, hY⟩ : ∃ Y, textF l d.b = Y := ⟨_, rfl⟩
      have HX := Lib.hid hX
      have HY := Lib.hid hY
      rw [hK, hX, hY] at HE
      rw [hK] at CC
      clear hK hX hY
      rcases ht with rfl | rfl
      all_goals
        go_enter Try.func19, Try.ntmps19
        go_wp2_with fail
        refine C.out.mono ?_
        rintro e w1 ⟨rfl, rfl⟩
        go_wp2_with fail
        refine C2.out.mono ?_
        rintro e w1 ⟨rfl, rfl⟩
        go_wp2_with fail
        have hcl := fun j => (Blk.new w 41 d.cells.toArray).cell j
        have hk1 : (w.alloc (.cells d.cells.toArray 41)).cell? ⟨w.heap.size, 1, none⟩ = some (.int .i64 d.a) := hcl 1
        have hk2 : (w.alloc (.cells d.cells.toArray 41)).cell? ⟨w.heap.size, 2, none⟩ = some (.int .i64 d.b) := hcl 2
        refine (CC.out _ ((Below.refl _ _).alloc (Nat.le_refl _) _)).mono ?_
        rintro e w1 ⟨rfl, rfl⟩
        rw [textV_eq]
        go_wp2_with fail
        refine (CT.out _ _ ((Below.refl _ _).alloc (Nat.le_refl _) _)).mono ?_
        rintro e w1 ⟨rfl, rfl⟩
        rw [HX.out, textV_eq]
        go_wp2_with fail
        refine (CT.out _ _ ((Below.refl _ _).alloc (Nat.le_refl _) _)).mono ?_
        rintro e w1 ⟨rfl, rfl⟩
        rw [HY.out, textV_eq]
        obtain ⟨b1, hb1⟩ : ∃ b1, K.isSome = b1 := ⟨_, rfl⟩
        obtain ⟨b2, hb2⟩ : ∃ b1, X.isSome = b1 := ⟨_, rfl⟩
        obtain ⟨b3, hb3⟩ : ∃ b1, Y.isSome = b1 := ⟨_, rfl⟩
        rw [hb1, hb2, hb3] at HE
        rw [hb1, hb2, hb3]
        clear hb1 hb2 hb3
        cases b1 <;> cases b2 <;> cases b3
        all_goals
          go_wp2
          refine bodyPost_ret (v := memberV (memberF l (k : Int) _)) (by rw [HE.out]; simp [results, Try.results19, go_sem, memberV, strB]) rfl ⟨rfl, (Below.refl _ _).alloc (Nat.le_refl _) _⟩

theorem refMember_any (A : Option Addr) (n cap : Nat) (l : List Cst) (p t : Int) (w : World) (hP : PoolSl w A n cap l) (hn : n ≤ 1000000) :
    Calls Try.prog 19 #[.slice A n cap, .int .i64 p, .int .i64 t] w fun e w' => e = .returned (memberV (memberF l p t)) ∧ Below w.heap.size w w' := by
  by_cases h : t = 9 ∨ t = 10
  · exact refMember_yes A n cap l p t w hP hn h
  · exact refMember_no A n cap l p t w (by omega)

end Go.Proofs.Ytinkjeifkjfkgaa
