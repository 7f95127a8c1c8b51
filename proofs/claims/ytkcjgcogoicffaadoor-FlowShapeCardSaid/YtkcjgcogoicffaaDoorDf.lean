/- The walks over desc.cutArgs, Method, Elem, IsRef, Object. -/
import Derived.Test.YtkcjgcogoicffaaDoorDe
namespace Go.Proofs.YtkcjgcogoicffaaDoor
set_option maxRecDepth 100000
open Go.RowKit

def svC (l : List UInt8) : List Value := [SV l]
theorem svC_len : ∀ l, (svC l).length = 1 := fun _ => rfl
theorem svC_one : ∀ l, ∀ v ∈ svC l, v.oneCell' = true := fun l v hv => by
  simp only [svC, List.mem_singleton] at hv
  subst hv
  rfl
theorem wpList_append_sv {ops : Array Oper} {rest : List Oper} {q : Oper} {u : Act} {w : World} {S : Nat → Prop} {Q : Exit → Act → World → Prop} (hgd : q.guard = none) (s x : Operand) (hq : q.op = .call { callee := .builtin .append, args := #[s, x], argTypes := #[36, 36] })
    (base : Nat) (B : Option Addr) (m0 c0 : Nat) (zs : List (List UInt8)) (hs : u.eval s = .slice B m0 c0) (hown : GotR svC 1 9 base w B m0 c0 zs) (A : Option Addr) (m c : Nat) (l : List (List UInt8))
    (hx : u.eval x = .slice A m c) (hB : RowSl svC 1 w S A m c l) (hn : A = none → m = 0 ∧ c = 0) (hm : m0 + m ≤ 16777216) (hbase : base ≤ w.heap.size)
    (h : ∀ A' c' w', GotR svC 1 9 base w' A' (m0 + m) c' (zs ++ l) → w.grownBy w' (Value.slice B m0 c0).ownBlock → (∀ g, (Value.slice B m0 c0).ownBlock = some g → base ≤ g) → wpList Tryd.prog ops Q rest (u.put q.dst (.slice A' (m0 + m) c')) w') : wpList Tryd.prog ops Q (q :: rest) u w :=
  wpList_append_rows svC_len svC_one (by decide) 36 9 _ 16 Tryd.underlying36 Tryd.infoStr (by simp [Value.cells]) (by decide) hgd s x hq base B m0 c0 zs hs hown A m c l hx hB hn hm hbase (fun A' c' w' h1 h2 h3 _ => h A' c' w' h1 h2 h3)
theorem sv_lit (l : List UInt8) (w : World) : RowSl svC 1 (w.alloc (.cells #[.string (strB l)] 9)) Empty (some ⟨w.heap.size, 0, none⟩) 1 1 [l] :=
  RowSl.lit svC_len w Empty 9 [l] 1 [.string (strB l)] rfl rfl (by unfold maxLen; omega) (fun h => h)

theorem argsF_step (k : Nat) (s : List UInt8) (h : cutD 0 s ≠ 0) : argsF (k + 1) s = (s.take (cutD 0 s) :: (argsF k (s.drop (cutD 0 s))).1, (argsF k (s.drop (cutD 0 s))).2) := by
  rw [argsF, if_neg h]

set_option maxHeartbeats 2000000 in
theorem cutArgs_any (xs : List UInt8) (w : World) (hl : xs.length ≤ 1000000) :
    Calls Tryd.prog 37 #[.string (strB xs)] w fun e w' => (∃ (A : Option Addr) (n c : Nat), e = .returned (.tuple #[.slice A n c, .string (strB (argsF 16 xs).2)]) ∧ GotR svC 1 9 w.heap.size w' A n c (argsF 16 xs).1) ∧ Below w.heap.size w w' := by
  go_enter Tryd.func37, Tryd.ntmps37
  go_wp2
  go_loopw [0, 2] (fun s v wr => ∃ (ys : List UInt8) (A : Option Addr) (n c : Nat) (l : List (List UInt8)), s = .string (strB ys) ∧ v = .slice A n c ∧ n ≤ 16 ∧ ys.length ≤ xs.length ∧ Hid (l.length = n) ∧ Hid (argsF 16 xs = (l ++ (argsF (16 - n) ys).1, (argsF (16 - n) ys).2)) ∧ Hid (GotR svC 1 9 w.heap.size wr A n c l) ∧ Hid (Below w.heap.size w wr)) (fun _ v _ => match v with | .slice _ n _ => 16 - n | _ => 0)
  case atStart => exact ⟨xs, none, 0, 0, [], rfl, rfl, by omega, Nat.le_refl _, Lib.hid rfl, Lib.hid rfl, Lib.hid (GotR.nil_ _ _ _ _ _), Lib.hid (Below.refl _ _)⟩
  case round =>
    obtain ⟨ys, A, n, c, l, rfl, rfl, hn16, hyl, HL, HA, HG, HB⟩ := hrel
    by_cases hlt : n < 16
    · have C := Lib.hid (cut_any ys wr (by omega))
      have hcl := cut_le ys 0
      have t1 := strB_toList (ys.take (cutD 0 ys))
      have hem := take_empty hcl
      obtain ⟨k, hk⟩ : ∃ k, k = cutD 0 ys := ⟨_, rfl⟩
      rw [← hk] at C hcl t1 hem
      by_cases hk0 : k = 0
      · have HE : Hid (argsF 16 xs = (l, ys)) := Lib.hid (by rw [HA.out, argsF_none _ _ (hk.symm.trans hk0)]; simp)
        have ht : ys.take k = [] := by rw [hk0]; rfl
        rw [ht] at t1 C
        clear hk hk0 hem ht
        go_wp2_with fail
        refine C.out.mono ?_
        rintro e w' ⟨rfl, hbel⟩
        have HB2 := Lib.hid (HB.out.trans (hbel.mono HB.out.size))
        have HG2 := Lib.hid (HG.out.below svC_len hbel)
        clear hbel
        go_wp2
        go_ret2
        exact ⟨⟨A, n, c, by rw [HE.out]; rfl, by rw [HE.out]; exact HG2.out⟩, HB2.out⟩
      · have HA2 : Hid (argsF 16 xs = ((l ++ [ys.take k]) ++ (argsF (16 - (n + 1)) (ys.drop k)).1, (argsF (16 - (n + 1)) (ys.drop k)).2)) := Lib.hid (by
          rw [HA.out, show 16 - n = (16 - (n + 1)) + 1 by omega, argsF_step _ _ (by rw [← hk]; exact hk0), ← hk]
          simp)
        have hne : (ys.take k).isEmpty = false := by rw [hem]; exact decide_eq_false hk0
        have hdl : (ys.drop k).length ≤ xs.length := by rw [List.length_drop]; omega
        have hne2 : ys.take k ≠ [] := by
          intro e
          rw [e] at hne
          cases hne
        have HL2 : Hid ((l ++ [ys.take k]).length = n + 1) := Lib.hid (by rw [List.length_append, HL.out]; rfl)
        obtain ⟨a, ha⟩ : ∃ a, a = ys.take k := ⟨_, rfl⟩
        obtain ⟨b, hb⟩ : ∃ b, b = ys.drop k := ⟨_, rfl⟩
        rw [← ha] at C t1 hne hne2 HA2 HL2
        rw [← hb] at C HA2 hdl
        clear hk hk0 hem ha hb
        go_wp2_with fail
        refine C.out.mono ?_
        rintro e w1 ⟨rfl, hbel⟩
        have HB2 := Lib.hid ((HB.out.trans (hbel.mono HB.out.size)).alloc (Nat.le_trans HB.out.size hbel.size) (.cells #[.string (strB a)] 9))
        have HG2 := Lib.hid ((HG.out.below svC_len hbel).alloc svC_len (.cells #[.string (strB a)] 9))
        have HS := Lib.hid (sv_lit a w1)
        clear hbel
        go_wp2_with (at_builtin; refine wpList_append_sv rfl (.tmp 16) (.tmp 18) rfl w.heap.size A n c l rfl HG2.out (some ⟨w1.heap.size, 0, none⟩) 1 1 [a] rfl HS.out (fun h => by cases h) (by omega) HB2.out.size ?_; intro A' c' w' hg' hgr' hr')
        have HG3 := Lib.hid hg'
        have HB3 := Lib.hid (below_gotR HB2.out HB2.out.size hgr' hr' (Nat.le_refl _))
        clear hg' hgr' hr'
        go_wp2
        go_roundw
        case rel => exact ⟨b, A', n + 1, c', l ++ [a], rfl, rfl, by omega, hdl, HL2, HA2, HG3, HB3⟩
        case measure => show 16 - (n + 1) < 16 - n; omega
    · obtain rfl : n = 16 := by omega
      have HE : Hid (argsF 16 xs = (l, ys)) := Lib.hid (by rw [HA.out]; simp [argsF])
      go_wp2
      go_ret2
      exact ⟨⟨A, 16, c, by rw [HE.out]; rfl, by rw [HE.out]; exact HG.out⟩, HB.out⟩

def mArgs (r : Option (List (List UInt8) × List UInt8)) : List (List UInt8) := (r.map (·.1)).getD []
def mRet (r : Option (List (List UInt8) × List UInt8)) : List UInt8 := (r.map (·.2)).getD []
def mErr (r : Option (List (List UInt8) × List UInt8)) : Int := if r.isSome then 0 else 8
/-- What a call that tells a method's types answers. -/
def MethD (w w' : World) (r : Option (List (List UInt8) × List UInt8)) (e : Ending) : Prop :=
  (∃ (A : Option Addr) (n c : Nat), e = .returned (.tuple #[.slice A n c, .string (strB (mRet r)), .int .i64 (mErr r)]) ∧ GotR svC 1 9 w.heap.size w' A n c (mArgs r)) ∧ Below w.heap.size w w'
theorem MethD.no {w w' : World} {r : Option (List (List UInt8) × List UInt8)} {e : Ending} (hr : r = none) (he : e = .returned (.tuple #[.slice none 0 0, .string ⟨#[]⟩, .int .i64 8])) (hb : Below w.heap.size w w') : MethD w w' r e := by
  subst hr
  exact ⟨⟨none, 0, 0, he, GotR.nil_ _ _ _ _ _⟩, hb⟩

theorem argsF_rest_le : ∀ (k : Nat) (s : List UInt8), (argsF k s).2.length ≤ s.length
  | 0, s => Nat.le_refl _
  | k + 1, s => by
    have := argsF_rest_le k (s.drop (cutD 0 s))
    rw [List.length_drop] at this
    unfold argsF
    split
    · exact Nat.le_refl _
    · simp only; omega

set_option maxHeartbeats 4000000 in
theorem method_any (xs : List UInt8) (w : World) (hl : xs.length ≤ 1000000) :
    Calls Tryd.prog 22 #[.string (strB xs)] w fun e w' => MethD w w' (methodF xs) e := by
  cases hb : hdB 40 xs with
  | false =>
    have C1 := Lib.hid (cutPrefix_no 40 xs w hb)
    have C2 := Lib.hid (cutArgs_any xs w hl)
    have HE : Hid (methodF xs = none) := Lib.hid (by
      cases xs with
      | nil => rfl
      | cons x t =>
        have hx : x ≠ 40 := fun e => by rw [e] at hb; simp [hdB] at hb
        simp [methodF, hx])
    obtain ⟨r, hr⟩ : ∃ r, r = (argsF 16 xs).2 := ⟨_, rfl⟩
    rw [← hr] at C2
    clear hb hr
    go_enter Tryd.func22, Tryd.ntmps22
    go_wp2_with fail
    refine C1.out.mono ?_
    rintro e w' ⟨rfl, rfl⟩
    go_wp2_with fail
    refine C2.out.mono ?_
    rintro e w1 ⟨⟨A, n, c, rfl, -⟩, hbel⟩
    have HB := Lib.hid hbel
    clear hbel
    cases hr : hdB 41 r with
    | true =>
      cases r with
      | nil => cases hr
      | cons x t =>
        obtain rfl : x = 41 := by simpa [hdB] using hr
        have C3 := Lib.hid (cutPrefix_yes 41 t w1)
        clear hr
        go_wp2_with fail
        refine C3.out.mono ?_
        rintro e w' ⟨rfl, rfl⟩
        go_wp2
        go_ret3
        exact MethD.no HE.out rfl HB.out
    | false =>
      have C3 := Lib.hid (cutPrefix_no 41 r w1 hr)
      clear hr
      go_wp2_with fail
      refine C3.out.mono ?_
      rintro e w' ⟨rfl, rfl⟩
      go_wp2
      go_ret3
      exact MethD.no HE.out rfl HB.out
  | true =>
    cases xs with
    | nil => cases hb
    | cons x s =>
      obtain rfl : x = 40 := by simpa [hdB] using hb
      have hsl : s.length ≤ 1000000 := by simp at hl; omega
      have C1 := Lib.hid (cutPrefix_yes 40 s w)
      have C2 := Lib.hid (cutArgs_any s w hsl)
      have hrl := argsF_rest_le 16 s
      have HM : Hid (methodF (40 :: s) = match (argsF 16 s).2 with
        | [] => none
        | y :: ret => if y = 41 ∧ retOk ret = true then some ((argsF 16 s).1, ret) else none) := Lib.hid rfl
      obtain ⟨r, hr⟩ : ∃ r, r = (argsF 16 s).2 := ⟨_, rfl⟩
      obtain ⟨la, has⟩ : ∃ la, la = (argsF 16 s).1 := ⟨_, rfl⟩
      rw [← hr] at C2 HM hrl
      rw [← has] at C2 HM
      obtain ⟨m, hm⟩ : ∃ m, m = methodF (40 :: s) := ⟨_, rfl⟩
      rw [← hm] at HM ⊢
      clear hb hr has hm
      go_enter Tryd.func22, Tryd.ntmps22
      go_wp2_with fail
      refine C1.out.mono ?_
      rintro e w' ⟨rfl, rfl⟩
      go_wp2_with fail
      refine C2.out.mono ?_
      rintro e w1 ⟨⟨A, n, c, rfl, hg⟩, hbel⟩
      have HG := Lib.hid hg
      have HB := Lib.hid hbel
      clear hg hbel
      cases hr : hdB 41 r with
      | false =>
        have C3 := Lib.hid (cutPrefix_no 41 r w1 hr)
        have HE : Hid (m = none) := Lib.hid (by
          rw [HM.out]
          cases r with
          | nil => rfl
          | cons y ret =>
            have hy : y ≠ 41 := fun e => by rw [e] at hr; simp [hdB] at hr
            simp [hy])
        clear hr
        go_wp2_with fail
        refine C3.out.mono ?_
        rintro e w' ⟨rfl, rfl⟩
        go_wp2
        go_ret3
        exact MethD.no HE.out rfl HB.out
      | true =>
        cases r with
        | nil => cases hr
        | cons y ret =>
          obtain rfl : y = 41 := by simpa [hdB] using hr
          have C3 := Lib.hid (cutPrefix_yes 41 ret w1)
          have t1 := strB_toList ret
          have HM2 : Hid (m = if retOk ret = true then some (la, ret) else none) := Lib.hid (by rw [HM.out]; simp)
          clear hr HM
          by_cases hv : ret = [86]
          · have q1 : (ret == [86]) = true := by rw [hv]; rfl
            have HE : Hid (m = some (la, ret)) := Lib.hid (by rw [HM2.out, if_pos (by rw [hv]; rfl)])
            clear hv
            go_wp2_with fail
            refine C3.out.mono ?_
            rintro e w' ⟨rfl, rfl⟩
            go_wp2
            go_ret3
            exact ⟨⟨A, n, c, by rw [HE.out]; rfl, by rw [HE.out]; exact HG.out⟩, HB.out⟩
          · have q1 : (ret == [86]) = false := beq_false_of_ne hv
            have hrt : retOk ret = typeD 0 ret := by unfold retOk; rw [q1]; rfl
            have C4 := Lib.hid (isType_any ret w1 (by simp at hrl; omega))
            rw [hrt] at HM2
            clear hrt
            cases ht : typeD 0 ret with
            | true =>
              rw [ht] at C4 HM2
              have HE : Hid (m = some (la, ret)) := Lib.hid (by rw [HM2.out, if_pos rfl])
              clear hv ht
              go_wp2_with fail
              refine C3.out.mono ?_
              rintro e w' ⟨rfl, rfl⟩
              go_wp2_with fail
              refine C4.out.mono ?_
              rintro e w2 ⟨rfl, hb2⟩
              have HB2 := Lib.hid (HB.out.trans (hb2.mono HB.out.size))
              have HG2 := Lib.hid (HG.out.below svC_len hb2)
              clear hb2
              go_wp2
              go_ret3
              exact ⟨⟨A, n, c, by rw [HE.out]; rfl, by rw [HE.out]; exact HG2.out⟩, HB2.out⟩
            | false =>
              rw [ht] at C4 HM2
              have HE : Hid (m = none) := Lib.hid (by rw [HM2.out, if_neg Bool.false_ne_true])
              clear hv ht
              go_wp2_with fail
              refine C3.out.mono ?_
              rintro e w' ⟨rfl, rfl⟩
              go_wp2_with fail
              refine C4.out.mono ?_
              rintro e w2 ⟨rfl, hb2⟩
              have HB2 := Lib.hid (HB.out.trans (hb2.mono HB.out.size))
              clear hb2
              go_wp2
              go_ret3
              exact MethD.no HE.out rfl HB2.out

def elemV (xs : List UInt8) : Value := if hdB 91 xs = true then .tuple #[.string (strB xs.tail), .bool true] else .tuple #[.string ⟨#[]⟩, .bool false]

def refB (xs : List UInt8) : Bool := hdB 76 xs || hdB 91 xs

/-- The type of a class. -/
def objL (xs : List UInt8) : List UInt8 := 76 :: (xs ++ [59])
theorem lit_strB (c : UInt8) : (⟨#[c]⟩ : ByteArray) = strB [c] := rfl

end Go.Proofs.YtkcjgcogoicffaaDoor
