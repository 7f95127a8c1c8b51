/- Words for strings as lists of bytes; the walks over the library's strings functions at one byte. -/
import Derived.Test.YtdkkpcbebhgbiaaGreatDoorZad
import Derived.Test.YtdkkpcbebhgbiaaGreatDoorZaa
import Derived.Laws.Strings3
import Derived.Lib.Bytealg
import Derived.Outline
namespace Go.Proofs.YtdkkpcbebhgbiaaGreatDoor
set_option maxRecDepth 100000
open Go.RowKit

theorem strB_size (xs : List UInt8) : (strB xs).size = xs.length := by simp [strB, ByteArray.size]
theorem strB_ext (xs : List UInt8) (a b : Nat) : (strB xs).extract a b = strB ((xs.drop a).take (b - a)) := ByteArray.extract_mk _ _ _
theorem strB_from (xs : List UInt8) (a : Nat) : (strB xs).extract a xs.length = strB (xs.drop a) := by
  rw [strB_ext, List.take_of_length_le (by simp)]
theorem strB_to (xs : List UInt8) (b : Nat) : (strB xs).extract 0 b = strB (xs.take b) := by rw [strB_ext]; simp
theorem strB_get (xs : List UInt8) (k : Nat) (x : UInt8) (h : k < (strB xs).size) (hx : xs[k]? = some x) : (strB xs)[k]'h = x := by
  have e : (strB xs)[k]'h = xs[k]'(by rw [strB_size] at h; exact h) := rfl
  rw [e]
  rw [List.getElem?_eq_getElem (by rw [strB_size] at h; exact h)] at hx
  exact Option.some.inj hx
theorem strB_of (s : ByteArray) : ∃ xs, s = strB xs ∧ xs.length = s.size := ⟨s.data.toList, rfl, Array.length_toList⟩

/-- Does a text begin with c? -/
def hdB (c : UInt8) : List UInt8 → Bool
  | [] => false
  | x :: _ => x == c

theorem hasPrefix1 (c : UInt8) (xs : List UInt8) (w : World) :
    Calls Tryz.prog 128 #[.string (strB xs), .string ⟨#[c]⟩] w fun e w' => e = .returned (.bool (hdB c xs)) ∧ w = w' := by
  have hz := strB_size xs
  cases xs with
  | nil =>
    go_enter Tryz.func128, Tryz.ntmps128
    go_wp2
    go_ret
    exact ⟨rfl, rfl⟩
  | cons x t =>
    have h1 : (strB (x :: t)).extract 0 1 = strB [x] := by rw [strB_ext]; simp
    have h3 := strB_toList [x]
    go_enter Tryz.func128, Tryz.ntmps128
    go_wp2
    go_ret
    exact ⟨rfl, rfl⟩

theorem cutPrefix_yes (c : UInt8) (t : List UInt8) (w : World) :
    Calls Tryz.prog 127 #[.string (strB (c :: t)), .string ⟨#[c]⟩] w fun e w' => e = .returned (.tuple #[.string (strB t), .bool true]) ∧ w = w' := by
  have hz := strB_size (c :: t)
  have h1 : (strB (c :: t)).extract 0 1 = strB [c] := by rw [strB_ext]; simp
  have h2 : (strB (c :: t)).extract 1 (t.length + 1) = strB t := by rw [strB_ext]; simp
  have h3 := strB_toList [c]
  go_enter Tryz.func127, Tryz.ntmps127
  go_wp2
  go_ret2
  exact ⟨rfl, rfl⟩

theorem cutPrefix_no (c : UInt8) (xs : List UInt8) (w : World) (h : hdB c xs = false) :
    Calls Tryz.prog 127 #[.string (strB xs), .string ⟨#[c]⟩] w fun e w' => e = .returned (.tuple #[.string (strB xs), .bool false]) ∧ w = w' := by
  have hz := strB_size xs
  cases xs with
  | nil =>
    clear h
    go_enter Tryz.func127, Tryz.ntmps127
    go_wp2
    go_ret2
    exact ⟨rfl, rfl⟩
  | cons x t =>
    have hx : (x == c) = false := h
    have h1 : (strB (x :: t)).extract 0 1 = strB [x] := by rw [strB_ext]; simp
    have h3 := strB_toList [x]
    clear h
    go_enter Tryz.func127, Tryz.ntmps127
    go_wp2
    go_ret2
    exact ⟨rfl, rfl⟩

theorem cutSuffix_yes (c : UInt8) (t : List UInt8) (w : World) (hl : t.length ≤ 1048576) :
    Calls Tryz.prog 180 #[.string (strB (t ++ [c])), .string ⟨#[c]⟩] w fun e w' => e = .returned (.tuple #[.string (strB t), .bool true]) ∧ w = w' := by
  obtain ⟨s, hs⟩ : ∃ s, s = strB (t ++ [c]) := ⟨_, rfl⟩
  rw [← hs]
  have hz : s.size = t.length + 1 := by rw [hs, strB_size]; simp
  have h1 : s.extract 0 t.length = strB t := by rw [hs, strB_to, List.take_left]
  have h2 : s.extract t.length (t.length + 1) = strB [c] := by rw [hs, strB_ext]; simp
  have h3 := strB_toList [c]
  clear hs
  obtain ⟨m, hm⟩ : ∃ m, m = t.length := ⟨_, rfl⟩
  rw [← hm] at hl hz h1 h2
  clear hm
  go_enter Tryz.func180, Tryz.ntmps180
  go_wp2
  go_ret2
  exact ⟨rfl, rfl⟩

theorem cutSuffix_no (c : UInt8) (xs : List UInt8) (w : World) (hl : xs.length ≤ 1048576) (h : xs.getLast? ≠ some c) :
    Calls Tryz.prog 180 #[.string (strB xs), .string ⟨#[c]⟩] w fun e w' => e = .returned (.tuple #[.string (strB xs), .bool false]) ∧ w = w' := by
  have hz := strB_size xs
  rcases List.eq_nil_or_concat xs with rfl | ⟨t, x, rfl⟩
  · clear h
    go_enter Tryz.func180, Tryz.ntmps180
    go_wp2
    go_ret2
    exact ⟨rfl, rfl⟩
  · have hx : (x == c) = false := by
      rw [beq_eq_false_iff_ne]
      rintro rfl
      exact h (by simp)
    obtain ⟨s, hs⟩ : ∃ s, s = strB (t.concat x) := ⟨_, rfl⟩
    rw [← hs] at hz ⊢
    rw [List.length_concat] at hz hl
    have h2 : s.extract t.length (t.length + 1) = strB [x] := by rw [hs, strB_ext]; simp
    have h3 := strB_toList [x]
    clear hs h
    obtain ⟨m, hm⟩ : ∃ m, m = t.length := ⟨_, rfl⟩
    rw [← hm] at hl hz h2
    clear hm
    go_enter Tryz.func180, Tryz.ntmps180
    go_wp2
    go_ret2
    exact ⟨rfl, rfl⟩

theorem trimLeftByte_any (c : UInt8) (xs : List UInt8) (w : World) (hl : xs.length ≤ 1048576) :
    Calls Tryz.prog 235 #[.string (strB xs), B8 c] w fun e w' => e = .returned (.string (strB (xs.dropWhile (· == c)))) ∧ w = w' := by
  unfold B8
  go_enter Tryz.func235, Tryz.ntmps235
  go_wp2
  go_loop [0] (fun v => ∃ ys : List UInt8, v = .string (strB ys) ∧ ys.length ≤ xs.length ∧ Hid (ys.dropWhile (· == c) = xs.dropWhile (· == c))) (fun v => match v with | .string s => s.size | _ => 0)
  case atStart => exact ⟨xs, rfl, Nat.le_refl _, Lib.hid rfl⟩
  case round =>
    obtain ⟨ys, rfl, hle, HD⟩ := hrel
    have hz := strB_size ys
    cases ys with
    | nil =>
      go_wp2
      go_ret
      exact ⟨by rw [← HD.out]; rfl, rfl⟩
    | cons x t =>
      have h2 : (strB (x :: t)).extract 1 (t.length + 1) = strB t := by rw [strB_ext]; simp
      have h0 : ∀ h, (strB (x :: t))[0]'h = x := fun h => strB_get _ _ _ h rfl
      cases hx : x == c with
      | true =>
        have hq : ((x.toNat : Int) == (c.toNat : Int)) = true := by
          have : x = c := by simpa using hx
          rw [this]; simp
        have HD2 : Hid (t.dropWhile (· == c) = xs.dropWhile (· == c)) := Lib.hid (by rw [← HD.out, List.dropWhile_cons]; simp only [hx, if_true])
        have hsz := strB_size t
        clear hx
        go_wp2
        go_round
        case rel => exact ⟨t, rfl, by simp at hle; omega, HD2⟩
        case measure =>
          show (strB t).size < (strB (x :: t)).size
          rw [hsz, hz]
          simp
      | false =>
        have hq : ((x.toNat : Int) == (c.toNat : Int)) = false := by
          rw [beq_eq_false_iff_ne]
          intro e
          have : x = c := UInt8.toNat_inj.1 (by omega)
          rw [this] at hx
          simp at hx
        have HD2 : Hid (x :: t = xs.dropWhile (· == c)) := Lib.hid (by rw [← HD.out, List.dropWhile_cons]; simp only [hx]; rfl)
        clear hx
        go_wp2
        go_ret
        exact ⟨by rw [← HD2.out]; rfl, rfl⟩

theorem trimLeft_any (xs : List UInt8) (w : World) (hl : xs.length ≤ 1048576) :
    Calls Tryz.prog 218 #[.string (strB xs), .string ⟨#[91]⟩] w fun e w' => e = .returned (.string (strB (xs.dropWhile (· == 91)))) ∧ w = w' := by
  have hz := strB_size xs
  cases xs with
  | nil =>
    have h3 : (strB []).toList = [] := strB_toList []
    go_enter Tryz.func218, Tryz.ntmps218
    go_wp2
    go_ret
    exact ⟨rfl, rfl⟩
  | cons x t =>
    have h3 := strB_toList (x :: t)
    have C := Lib.hid (trimLeftByte_any 91 (x :: t) w hl)
    obtain ⟨ys, hy⟩ : ∃ ys, ys = (x :: t).dropWhile (· == 91) := ⟨_, rfl⟩
    rw [← hy] at C ⊢
    clear hy
    go_enter Tryz.func218, Tryz.ntmps218
    go_wp2_with fail
    refine C.out.mono ?_
    rintro e w' ⟨rfl, rfl⟩
    go_wp2
    go_ret
    exact ⟨rfl, rfl⟩

/-- Where a byte stands first; -1: nowhere. -/
def idxI (c : UInt8) (xs : List UInt8) : Int := match xs.idxOf? c with
  | none => -1
  | some i => i
theorem idxI_eq (c : UInt8) : ∀ xs : List UInt8, Lib.indexByte xs c = idxI c xs
  | [] => rfl
  | x :: t => by
    have ih := idxI_eq c t
    unfold Lib.indexByte
    unfold idxI at ih ⊢
    rw [ih, List.idxOf?_cons]
    cases x == c with
    | true => rfl
    | false =>
      cases t.idxOf? c with
      | none => rfl
      | some i =>
        show (if ((i : Int) == -1) = true then (-1 : Int) else (i : Int) + 1) = ((i + 1 : Nat) : Int)
        rw [if_neg (by simp)]
        rfl

set_option maxHeartbeats 1000000 in
theorem index_any (c : UInt8) (xs : List UInt8) (w : World) :
    Calls Tryz.prog 231 #[.string (strB xs), .string ⟨#[c]⟩] w fun e w' => e = .returned (.int .i64 (idxI c xs)) ∧ w = w' := by
  have h3 := strB_toList xs
  by_cases hx : xs = [c]
  · have hq : ([c] == xs) = true := by rw [hx]; simp
    have HE : Hid (idxI c xs = 0) := Lib.hid (by rw [hx]; simp [idxI])
    clear hx
    go_enter Tryz.func231, Tryz.ntmps231
    go_wp2
    go_ret
    exact ⟨by rw [HE.out]; rfl, rfl⟩
  · have hq : ([c] == xs) = false := by
      rw [beq_eq_false_iff_ne]
      exact fun e => hx e.symm
    have hr : (Extern.BytealgIndexByte.indexByte #[.string (strB xs), .int .u8 (c.toNat : Int)]).run Tryz.prog w = .ok (.int .i64 (idxI c xs)) w := by
      rw [Lib.run_indexByteString, ← idxI_eq]
      have e : ((c.toNat : Int).toNat).toUInt8 = c := by
        rw [Int.toNat_natCast]
        exact UInt8.ofNat_toNat
      rw [e]
      rfl
    have Hr := Lib.hid hr
    have h0 : ∀ h, (⟨#[c]⟩ : ByteArray)[0]'h = c := fun _ => rfl
    clear hr hx
    go_enter Tryz.func231, Tryz.ntmps231
    go_wp2
    rw [run_callFunc_extern Tryz.func253 (by kernel_rfl) (by kernel_rfl) (by kernel_rfl) (e := Extern.BytealgIndexByte.indexByte) (by kernel_rfl), Hr.out]
    simp only [Result.andThen]
    rw [Oper.upon_value]
    go_wp2
    go_ret
    exact ⟨rfl, rfl⟩

set_option maxHeartbeats 1000000 in
theorem count_any (c : UInt8) (xs : List UInt8) (w : World) :
    Calls Tryz.prog 230 #[.string (strB xs), .string ⟨#[c]⟩] w fun e w' => e = .returned (.int .i64 ((xs.count c : Nat) : Int)) ∧ w = w' := by
  have hr : (Extern.BytealgCount.count #[.string (strB xs), .int .u8 (c.toNat : Int)]).run Tryz.prog w = .ok (.int .i64 ((xs.count c : Nat) : Int)) w := by
    rw [Lib.run_countString]
    have e : ((c.toNat : Int).toNat).toUInt8 = c := by
      rw [Int.toNat_natCast]
      exact UInt8.ofNat_toNat
    rw [e]
    rfl
  have Hr := Lib.hid hr
  have h0 : ∀ h, (⟨#[c]⟩ : ByteArray)[0]'h = c := fun _ => rfl
  clear hr
  go_enter Tryz.func230, Tryz.ntmps230
  go_wp2
  rw [run_callFunc_extern Tryz.func243 (by kernel_rfl) (by kernel_rfl) (by kernel_rfl) (e := Extern.BytealgCount.count) (by kernel_rfl), Hr.out]
  simp only [Result.andThen]
  rw [Oper.upon_value]
  go_wp2
  go_ret
  exact ⟨rfl, rfl⟩

end Go.Proofs.YtdkkpcbebhgbiaaGreatDoor
