/- klass's five rows, of whichever pass. -/
import Derived.Test.YtendpbklcgiafaaZar
import Derived.Test.YtendpbklcgiafaaZau
import Derived.Test.YtendpbklcgiafaaZav
namespace Go.Proofs.Ytendpbklcgiafaa
set_option maxRecDepth 100000
open Go.RowKit

theorem kRowTrap_any {α : Type} {c : Cx} (most : Nat) (hmost : most ≤ 255) (mostV : Int) (hmv : mostV = (most : Int)) {K : Nat} {R : RepT α} {e : Enc α} {cost : Nat} {blank : List Value → α → Prop} (hI : Item c K R e cost blank) (hk : R.k = 4) (hu : Uniq e) (hcost : cost ≤ 1000000)
    (v0 : α) (hz : ∀ w Z, R.rep w Z [.int .i64 0, .int .i64 0, .int .i64 0, .int .i64 0] v0) (hbl : blank [.int .i64 0, .int .i64 0, .int .i64 0, .int .i64 0] v0) (eK : ∀ (args : Array Value) (W : World), (callFunc K args).run Try.prog W = .ok (.enter K args) W)
    {w : World} {g : Nat} {S : Nat → Prop} {N : Nat} {s : Option (List UInt8)} {b off : Nat} {u : Value} {l : List α} (hP : PassAt c w g S N s) (hN : N + (2 + most * cost) ≤ 16000000) (hb : ¬ S b) (hT : Tgt c w b off [u]) (hR : (rowT R).rep w (Zs c S b) [u] l) (hrd : c.m.isRd = true → u = .slice none 0 0 ∧ l = []) :
    Calls Try.prog 55 #[c.m.v g, .pointer (some ⟨b, off, none⟩), .int .i64 mostV, .func (.func K) #[c.cv] #[]] w (After c w g S (N + (2 + most * cost)) s b off (rowT R) (rowE most e) l) := by
  cases hm : c.m with
  | wr =>
    obtain ⟨A, n, cap, e1, hL⟩ := hR
    cases e1
    have h := kRowTrap_wr hm most hmost mostV hmv hI hk hu hcost eK w g S N s b off A n cap l hP hN hb hT hL
    rwa [hm] at h
  | rd A n cap bs =>
    have hr : c.m.isRd = true := by rw [hm]; rfl
    obtain ⟨rfl, rfl⟩ := hrd hr
    have h := kRowTrap_rd hr most hmost mostV hmv hI hk hu hcost v0 hz hbl eK w g S N s b off hP hN hb hT
    rwa [hm] at h
theorem kRowSlot_any {α : Type} {c : Cx} (most : Nat) (hmost : most ≤ 255) (mostV : Int) (hmv : mostV = (most : Int)) {K : Nat} {R : RepT α} {e : Enc α} {cost : Nat} {blank : List Value → α → Prop} (hI : Item c K R e cost blank) (hk : R.k = 2) (hu : Uniq e) (hcost : cost ≤ 1000000)
    (v0 : α) (hz : ∀ w Z, R.rep w Z [.int .i64 0, .int .i64 0] v0) (hbl : blank [.int .i64 0, .int .i64 0] v0) (eK : ∀ (args : Array Value) (W : World), (callFunc K args).run Try.prog W = .ok (.enter K args) W)
    {w : World} {g : Nat} {S : Nat → Prop} {N : Nat} {s : Option (List UInt8)} {b off : Nat} {u : Value} {l : List α} (hP : PassAt c w g S N s) (hN : N + (2 + most * cost) ≤ 16000000) (hb : ¬ S b) (hT : Tgt c w b off [u]) (hR : (rowT R).rep w (Zs c S b) [u] l) (hrd : c.m.isRd = true → u = .slice none 0 0 ∧ l = []) :
    Calls Try.prog 62 #[c.m.v g, .pointer (some ⟨b, off, none⟩), .int .i64 mostV, .func (.func K) #[c.cv] #[]] w (After c w g S (N + (2 + most * cost)) s b off (rowT R) (rowE most e) l) := by
  cases hm : c.m with
  | wr =>
    obtain ⟨A, n, cap, e1, hL⟩ := hR
    cases e1
    have h := kRowSlot_wr hm most hmost mostV hmv hI hk hu hcost eK w g S N s b off A n cap l hP hN hb hT hL
    rwa [hm] at h
  | rd A n cap bs =>
    have hr : c.m.isRd = true := by rw [hm]; rfl
    obtain ⟨rfl, rfl⟩ := hrd hr
    have h := kRowSlot_rd hr most hmost mostV hmv hI hk hu hcost v0 hz hbl eK w g S N s b off hP hN hb hT
    rwa [hm] at h
theorem kRowField_any {α : Type} {c : Cx} (most : Nat) (hmost : most ≤ 255) (mostV : Int) (hmv : mostV = (most : Int)) {K : Nat} {R : RepT α} {e : Enc α} {cost : Nat} {blank : List Value → α → Prop} (hI : Item c K R e cost blank) (hk : R.k = 3) (hu : Uniq e) (hcost : cost ≤ 1000000)
    (v0 : α) (hz : ∀ w Z, R.rep w Z [.int .i64 0, .int .i64 0, .int .i64 0] v0) (hbl : blank [.int .i64 0, .int .i64 0, .int .i64 0] v0) (eK : ∀ (args : Array Value) (W : World), (callFunc K args).run Try.prog W = .ok (.enter K args) W)
    {w : World} {g : Nat} {S : Nat → Prop} {N : Nat} {s : Option (List UInt8)} {b off : Nat} {u : Value} {l : List α} (hP : PassAt c w g S N s) (hN : N + (2 + most * cost) ≤ 16000000) (hb : ¬ S b) (hT : Tgt c w b off [u]) (hR : (rowT R).rep w (Zs c S b) [u] l) (hrd : c.m.isRd = true → u = .slice none 0 0 ∧ l = []) :
    Calls Try.prog 31 #[c.m.v g, .pointer (some ⟨b, off, none⟩), .int .i64 mostV, .func (.func K) #[c.cv] #[]] w (After c w g S (N + (2 + most * cost)) s b off (rowT R) (rowE most e) l) := by
  cases hm : c.m with
  | wr =>
    obtain ⟨A, n, cap, e1, hL⟩ := hR
    cases e1
    have h := kRowField_wr hm most hmost mostV hmv hI hk hu hcost eK w g S N s b off A n cap l hP hN hb hT hL
    rwa [hm] at h
  | rd A n cap bs =>
    have hr : c.m.isRd = true := by rw [hm]; rfl
    obtain ⟨rfl, rfl⟩ := hrd hr
    have h := kRowField_rd hr most hmost mostV hmv hI hk hu hcost v0 hz hbl eK w g S N s b off hP hN hb hT
    rwa [hm] at h
theorem kRowMap_any {α : Type} {c : Cx} (most : Nat) (hmost : most ≤ 255) (mostV : Int) (hmv : mostV = (most : Int)) {K : Nat} {R : RepT α} {e : Enc α} {cost : Nat} {blank : List Value → α → Prop} (hI : Item c K R e cost blank) (hk : R.k = 3) (hu : Uniq e) (hcost : cost ≤ 1000000)
    (v0 : α) (hz : ∀ w Z, R.rep w Z [.int .i64 0, .slice none 0 0, .slice none 0 0] v0) (hbl : blank [.int .i64 0, .slice none 0 0, .slice none 0 0] v0) (eK : ∀ (args : Array Value) (W : World), (callFunc K args).run Try.prog W = .ok (.enter K args) W)
    {w : World} {g : Nat} {S : Nat → Prop} {N : Nat} {s : Option (List UInt8)} {b off : Nat} {u : Value} {l : List α} (hP : PassAt c w g S N s) (hN : N + (2 + most * cost) ≤ 16000000) (hb : ¬ S b) (hT : Tgt c w b off [u]) (hR : (rowT R).rep w (Zs c S b) [u] l) (hrd : c.m.isRd = true → u = .slice none 0 0 ∧ l = []) :
    Calls Try.prog 60 #[c.m.v g, .pointer (some ⟨b, off, none⟩), .int .i64 mostV, .func (.func K) #[c.cv] #[]] w (After c w g S (N + (2 + most * cost)) s b off (rowT R) (rowE most e) l) := by
  cases hm : c.m with
  | wr =>
    obtain ⟨A, n, cap, e1, hL⟩ := hR
    cases e1
    have h := kRowMap_wr hm most hmost mostV hmv hI hk hu hcost eK w g S N s b off A n cap l hP hN hb hT hL
    rwa [hm] at h
  | rd A n cap bs =>
    have hr : c.m.isRd = true := by rw [hm]; rfl
    obtain ⟨rfl, rfl⟩ := hrd hr
    have h := kRowMap_rd hr most hmost mostV hmv hI hk hu hcost v0 hz hbl eK w g S N s b off hP hN hb hT
    rwa [hm] at h
theorem kRowMethod_any {α : Type} {c : Cx} (most : Nat) (hmost : most ≤ 255) (mostV : Int) (hmv : mostV = (most : Int)) {K : Nat} {R : RepT α} {e : Enc α} {cost : Nat} {blank : List Value → α → Prop} (hI : Item c K R e cost blank) (hk : R.k = 8) (hu : Uniq e) (hcost : cost ≤ 1000000)
    (v0 : α) (hz : ∀ w Z, R.rep w Z [.int .i64 0, .int .i64 0, .int .i64 0, .int .i64 0, .int .i64 0, .slice none 0 0, .slice none 0 0, .slice none 0 0] v0) (hbl : blank [.int .i64 0, .int .i64 0, .int .i64 0, .int .i64 0, .int .i64 0, .slice none 0 0, .slice none 0 0, .slice none 0 0] v0) (eK : ∀ (args : Array Value) (W : World), (callFunc K args).run Try.prog W = .ok (.enter K args) W)
    {w : World} {g : Nat} {S : Nat → Prop} {N : Nat} {s : Option (List UInt8)} {b off : Nat} {u : Value} {l : List α} (hP : PassAt c w g S N s) (hN : N + (2 + most * cost) ≤ 16000000) (hb : ¬ S b) (hT : Tgt c w b off [u]) (hR : (rowT R).rep w (Zs c S b) [u] l) (hrd : c.m.isRd = true → u = .slice none 0 0 ∧ l = []) :
    Calls Try.prog 33 #[c.m.v g, .pointer (some ⟨b, off, none⟩), .int .i64 mostV, .func (.func K) #[c.cv] #[]] w (After c w g S (N + (2 + most * cost)) s b off (rowT R) (rowE most e) l) := by
  cases hm : c.m with
  | wr =>
    obtain ⟨A, n, cap, e1, hL⟩ := hR
    cases e1
    have h := kRowMethod_wr hm most hmost mostV hmv hI hk hu hcost eK w g S N s b off A n cap l hP hN hb hT hL
    rwa [hm] at h
  | rd A n cap bs =>
    have hr : c.m.isRd = true := by rw [hm]; rfl
    obtain ⟨rfl, rfl⟩ := hrd hr
    have h := kRowMethod_rd hr most hmost mostV hmv hI hk hu hcost v0 hz hbl eK w g S N s b off hP hN hb hT
    rwa [hm] at h

end Go.Proofs.Ytendpbklcgiafaa

/- The walk over klass's code, of whichever pass. -/
namespace Go.Proofs.Ytendpbklcgiafaa
set_option maxRecDepth 100000
open Go.RowKit

theorem Stp.counted {β : Type} {rd : Bool} {e1 : Enc Int} {f : Int → Enc β} {len : β → Int} (hu : Uniq e1) {s s1 s2 : Option (List UInt8)} {l l' : β} {n n' : Int} (hn : n = len l)
    (h : Stp rd e1 s n s1 n') (k : Stp rd (f n') s1 l s2 l') (hlen : s2 ≠ none → n' = len l') : Stp rd (mapE (fun l => (len l, l)) (seqE e1 f)) s l s2 l' := by
  have hs := Stp.seq (f := f) hu h k
  cases rd with
  | false =>
    subst hn
    have e1 : n' = len l := h.1
    have e2 : l' = l := k.1
    subst e1 e2
    exact Stp.map (g := fun l : β => (len l, l)) (fun _ _ h => (Prod.mk.inj h).2) hs
  | true =>
    cases s2 with
    | none =>
      refine Stp.map (g := fun l : β => (len l, l)) (fun _ _ h => (Prod.mk.inj h).2) ?_
      subst hn
      exact hs.any _
    | some r =>
      have e1 := hlen (by simp)
      subst hn e1
      exact Stp.map (g := fun l : β => (len l, l)) (fun _ _ h => (Prod.mk.inj h).2) hs

theorem raw_len {rd : Bool} {k : Nat} {s s' : Option (List UInt8)} {v v' : List UInt8} (h : Stp rd (rawE k) s v s' v') (hs : s' ≠ none) : v'.length = k := by
  have key : ∀ (v x : List UInt8), rawE k v = some x → v.length = k := fun v x h => by
    unfold rawE at h
    split at h
    · assumption
    · cases h
  cases rd with
  | false =>
    obtain ⟨rfl, rfl⟩ := h
    cases s with
    | none => exact absurd rfl hs
    | some out =>
      cases hr : rawE k v' with
      | none => rw [hr] at hs; exact absurd rfl hs
      | some x => exact key _ _ hr
  | true =>
    cases s with
    | none => exact absurd h hs
    | some b =>
      rcases h with ⟨r, _, x, hx, _⟩ | ⟨h, _⟩
      · exact key _ _ hx
      · exact absurd h hs

section
variable {c : Cx} {w : World} {g b off : Nat} {S : Nat → Prop} {N : Nat} {s : Option (List UInt8)}
theorem bytes_keep {w' : World} {S' : Nat → Prop} {u : Value} {l : List UInt8} (hR : bytesT.rep w (Zs c S b) [u] l) (hbl : c.m.isRd = true → u = .slice none 0 0 ∧ l = []) (hO : Only S w w') (hs : ∀ q, S' q → S q ∨ w.heap.size ≤ q) : bytesT.rep w' (Zn c S' w.heap.size) [u] l := by
  cases hr : c.m.isRd with
  | true =>
    obtain ⟨rfl, rfl⟩ := hbl hr
    exact ⟨none, 0, 0, rfl, ByteSl.nil_ _ _ _ _ (by unfold maxLen; omega), fun _ => ⟨rfl, rfl⟩⟩
  | false =>
    refine bytesT.next hR (hO.mono (fun _ _ h => .inl h)) (fun q hq hz => ?_)
    rcases hz with hz | ⟨h3, _⟩
    · exact .inl ((hs q hz).resolve_right (by omega))
    · rw [hr] at h3; cases h3
set_option maxHeartbeats 4000000 in
theorem kCode_any (hP : PassAt c w g S N s) (hN : N + 4100 ≤ 16000000) (hb : ¬ S b) (u : Value) (l : List UInt8) (hT : Tgt c w b off [u]) (hR : bytesT.rep w (Zs c S b) [u] l) (hbl : c.m.isRd = true → u = .slice none 0 0 ∧ l = []) :
    Calls Try.prog 54 #[c.m.v g, .pointer (some ⟨b, off, none⟩)] w (After c w g S (N + 4100) s b off bytesT codeE l) := by
  have hR0 := hR
  obtain ⟨A, n, cap, eu, hB, hn⟩ := hR
  cases eu
  have hnl := hB.1
  have hbl' : c.m.isRd = true → n = 0 ∧ A = none ∧ cap = 0 ∧ l = [] := fun h => by
    obtain ⟨h1, h2⟩ := hbl h
    cases h1
    exact ⟨rfl, rfl, rfl, h2⟩
  have hc0 : w.cell? ⟨b, off, none⟩ = some (.slice A n cap) := by have := hT.cell 0 _ rfl; rwa [Nat.add_zero] at this
  have hP1 : PassAt c (w.alloc (.cells #[.int .i64 (n : Int)] 3)) g S N s := hP.only ((Only.refl Empty w).alloc _) (fun _ _ h => h.elim) (fun _ _ h => h.elim)
  have C1 := mdNumber_any hP1 (n : Int) 4 (hP.fresh (Nat.le_refl _)) (Tgt.new hP 3 [.int .i64 (n : Int)]) (by omega) (by omega) (by omega)
  have rN := fun W => reach_number c.m g W
  have eN := fun args W => enter_number c.m W args
  have rA := fun W => reach_ask c.m g W
  have eA : ∀ (args : Array Value) (W : World), (callFunc 18 args).run Try.prog W = .ok (.enter 18 args) W := fun args W => by kernel_rfl
  have rG := fun W => reach_goesOn c.m g W
  have eG : ∀ (args : Array Value) (W : World), (callFunc 17 args).run Try.prog W = .ok (.enter 17 args) W := fun args W => by kernel_rfl
  have rB := fun W => reach_bytes c.m g W
  have eB := fun args W => enter_bytes c.m W args
  have HP := Lib.hid hP
  have HT := Lib.hid hT
  have HR0 := Lib.hid hR0
  have Hb := Lib.hid hb
  have Hnl := Lib.hid hnl
  have Hbl := Lib.hid hbl'
  have Hbl0 := Lib.hid hbl
  have hncap : n ≤ cap := hB.2.1
  have hcm : cap ≤ 9223372036854775807 := by have h2 := hB.2.2.1; unfold maxLen at h2; omega
  obtain ⟨T, hTy⟩ : ∃ T, T = c.m.T := ⟨_, rfl⟩
  obtain ⟨fN, hfN⟩ : ∃ fN, fN = c.m.fN := ⟨_, rfl⟩
  obtain ⟨fB, hfB⟩ : ∃ fB, fB = c.m.fB := ⟨_, rfl⟩
  have hp : c.m.v g = .iface T (.pointer (some ⟨g, 0, none⟩)) := by rw [hTy]; rfl
  rw [hp]
  rw [← hTy] at rN rA rG rB
  rw [← hfN] at rN eN C1
  rw [← hfB] at rB eB
  have HfB := Lib.hid hfB
  have HC1 := Lib.hid C1
  clear C1 hP hT hR0 hb hnl hbl' hbl hB hn hP1 hTy hfN hfB hp
  go_enter Try.func54, Try.ntmps54
  go_wp2_with fail
  refine HC1.out.mono ?_
  rintro e1 w1 ⟨rfl, S1, s1, x1, hD1, hT1, hN1⟩
  obtain ⟨hP1, hs1, hO1⟩ := hD1.went (w := w) ((Only.refl Empty w).alloc _) (Nat.le_refl _)
  have n1 : w1.cell? ⟨w.heap.size, 0, none⟩ = some (.int .i64 x1) := hT1.cell 0 _ rfl
  have d1 : w1.cell? ⟨b, off, none⟩ = some (.slice A n cap) := (hO1.cell (p := ⟨b, off, none⟩) HT.out.lt Hb.out).trans hc0
  have HP1 := Lib.hid hP1
  have Hs1 := Lib.hid hs1
  have HO1 := Lib.hid hO1
  have HDry : Hid (c.dry → s1 = none) := Lib.hid (HP.out.dry_num (by omega) hN1)
  have HK1 : Hid (Stp c.m.isRd (kindE codeN 4) s (n : Int) (if codeN x1 = true then s1 else none) x1) := Lib.hid (hN1.ask fits_code)
  have hq1 : w.heap.size < w1.heap.size ∧ ¬ S1 w.heap.size := ⟨hT1.lt, fun h => by
    rcases hD1.sub _ h with h | h
    · exact HP.out.fresh (Nat.le_refl _) h
    · simp at h; omega⟩
  have Hq1 := Lib.hid hq1
  clear hD1 hT1 hN1 hP1 hs1 hO1 hc0 hq1 HC1
  by_cases h1 : 1 ≤ x1
  · by_cases h2 : x1 ≤ 4096
    · have hok : codeN x1 = true := by unfold codeN; exact decide_eq_true ⟨h1, h2⟩
      have HK2 : Hid (Stp c.m.isRd (kindE codeN 4) s (n : Int) s1 x1) := Lib.hid (by have h := HK1.out; rwa [if_pos hok] at h)
      clear hok
      go_wp2_with fail
      refine (ask_any HP1.out true (fun _ => .inl rfl)).mono ?_
      rintro e2 w2 ⟨rfl, hP2, hO2⟩
      rw [if_pos rfl] at hP2
      have HP2 := Lib.hid hP2
      have HO2 := Lib.hid hO2
      have n2 : w2.cell? ⟨w.heap.size, 0, none⟩ = some (.int .i64 x1) := (hO2.cell (p := ⟨w.heap.size, 0, none⟩) Hq1.out.1 Hq1.out.2).trans n1
      clear hP2 hO2 n1
      go_wp2_with fail
      refine (goesOn_any HP2.out).mono ?_
      rintro e3 w3 ⟨rfl, rfl⟩
      have HO12 : Hid (Only S w w2) := Lib.hid (HO1.out.trans' HO2.out (fun q hq h => (Hs1.out q h).resolve_right (by omega)))
      have hb1 : ¬ S1 b := fun h => by
        rcases Hs1.out b h with h | h
        · exact Hb.out h
        · have := HT.out.lt; omega
      cases hs : s1 with
      | none =>
        subst hs
        rw [show (none : Option (List UInt8)).isSome = false from rfl]
        go_wp2
        go_end0
        refine ⟨rfl, S1, none, [.slice A n cap], l, Done.own (HP2.out.more (by omega)) Hs1.out HO12.out b off 1 Hb.out HT.out.lt, HT.out.only HO12.out Hb.out, ?_, ?_⟩
        · exact bytes_keep HR0.out Hbl0.out HO12.out Hs1.out
        · exact Stp.counted (len := fun l : List UInt8 => (l.length : Int)) (Uniq.kind fits_code) (by rw [Hnl.out]) HK2.out (Stp.none_ _ _) (fun h => absurd rfl h)
      | some z1 =>
        subst hs
        rw [show (some z1).isSome = true from rfl]
        obtain ⟨k, rfl⟩ : ∃ k : Nat, x1 = (k : Int) := ⟨x1.toNat, by omega⟩
        have hT2 := HT.out.only HO12.out Hb.out
        have CB := mdBytes_any HP2.out A n cap l k hb1 hT2 (bytesT.next HR0.out (HO12.out.mono (fun _ _ h => .inl h)) (Zs.mono (fun q hq => (Hs1.out q hq)))) (fun hr => by
          have h := HK2.out
          rw [hr] at h
          have h3 : (k : Int) = (n : Int) := h.1
          omega) Hbl.out (by omega) (by omega) (by omega)
        rw [← HfB.out] at CB
        have HCB := Lib.hid CB
        clear CB hT2 hb1
        go_wp2_with fail
        refine HCB.out.mono ?_
        rintro e5 w5 ⟨rfl, S5, s5, cs5, l5, hD5, hT5, hR5, hS5⟩
        have HD5 := Lib.hid hD5
        have HT5 := Lib.hid hT5
        have HR5 := Lib.hid hR5
        have HS5 := Lib.hid hS5
        clear hD5 hT5 hR5 hS5 HCB
        go_wp2
        go_end0
        refine ⟨rfl, S5, s5, cs5, l5, ⟨HD5.out.pass.more (by omega), fun q hq => ?_, (HO12.out.mono (fun _ _ h => .inl h)).trans' HD5.out.only (Zs.mono Hs1.out), fun o ho => ?_⟩, HT5.out, bytesT.next HR5.out (Only.refl _ _) (fun q hq hz => ?_), ?_⟩
        · rcases HD5.out.sub q hq with h | h
          · exact Hs1.out q h
          · exact .inr (Nat.le_trans HO12.out.size h)
        · rw [HD5.out.rest o ho]
          exact HO12.out.cell (p := ⟨b, o, none⟩) HT.out.lt Hb.out
        · rcases hz with hz | ⟨h3, h4⟩
          · exact .inl hz
          · exact .inr ⟨h3, Nat.lt_of_lt_of_le h4 HO12.out.size⟩
        · refine Stp.counted (len := fun l : List UInt8 => (l.length : Int)) (Uniq.kind fits_code) (by rw [Hnl.out]) HK2.out (by rw [Int.toNat_natCast]; exact HS5.out) (fun hne => by rw [raw_len HS5.out hne])
    · have hd2 : decide (x1 ≤ 4096) = false := decide_eq_false h2
      have hok : codeN x1 = false := by unfold codeN; exact decide_eq_false (fun h => h2 h.2)
      have HK2 : Hid (Stp c.m.isRd (kindE codeN 4) s (n : Int) none x1) := Lib.hid (by have h := HK1.out; rwa [if_neg (by rw [hok]; decide)] at h)
      clear hok
      go_wp2_with fail
      refine (ask_any HP1.out false (fun hd => .inr (HDry.out hd))).mono ?_
      rintro e2 w2 ⟨rfl, hP2, hO2⟩
      rw [if_neg (by decide)] at hP2
      have HP2 := Lib.hid hP2
      have HO2 := Lib.hid hO2
      clear hP2 hO2 n1
      go_wp2_with fail
      refine (goesOn_any HP2.out).mono ?_
      rintro e3 w3 ⟨rfl, rfl⟩
      have HO12 : Hid (Only S w w2) := Lib.hid (HO1.out.trans' HO2.out (fun q hq h => (Hs1.out q h).resolve_right (by omega)))
      rw [show (none : Option (List UInt8)).isSome = false from rfl]
      go_wp2
      go_end0
      exact ⟨rfl, S1, none, [.slice A n cap], l, Done.own (HP2.out.more (by omega)) Hs1.out HO12.out b off 1 Hb.out HT.out.lt, HT.out.only HO12.out Hb.out, bytes_keep HR0.out Hbl0.out HO12.out Hs1.out, Stp.counted (len := fun l : List UInt8 => (l.length : Int)) (Uniq.kind fits_code) (by rw [Hnl.out]) HK2.out (Stp.none_ _ _) (fun h => absurd rfl h)⟩
  · have hok : codeN x1 = false := by unfold codeN; exact decide_eq_false (fun h => h1 h.1)
    have HK2 : Hid (Stp c.m.isRd (kindE codeN 4) s (n : Int) none x1) := Lib.hid (by have h := HK1.out; rwa [if_neg (by rw [hok]; decide)] at h)
    clear hok
    go_wp2_with fail
    refine (ask_any HP1.out false (fun hd => .inr (HDry.out hd))).mono ?_
    rintro e2 w2 ⟨rfl, hP2, hO2⟩
    rw [if_neg (by decide)] at hP2
    have HP2 := Lib.hid hP2
    have HO2 := Lib.hid hO2
    clear hP2 hO2 n1
    go_wp2_with fail
    refine (goesOn_any HP2.out).mono ?_
    rintro e3 w3 ⟨rfl, rfl⟩
    have HO12 : Hid (Only S w w2) := Lib.hid (HO1.out.trans' HO2.out (fun q hq h => (Hs1.out q h).resolve_right (by omega)))
    rw [show (none : Option (List UInt8)).isSome = false from rfl]
    go_wp2
    go_end0
    exact ⟨rfl, S1, none, [.slice A n cap], l, Done.own (HP2.out.more (by omega)) Hs1.out HO12.out b off 1 Hb.out HT.out.lt, HT.out.only HO12.out Hb.out, bytes_keep HR0.out Hbl0.out HO12.out Hs1.out, Stp.counted (len := fun l : List UInt8 => (l.length : Int)) (Uniq.kind fits_code) (by rw [Hnl.out]) HK2.out (Stp.none_ _ _) (fun h => absurd rfl h)⟩
end

end Go.Proofs.Ytendpbklcgiafaa

/- The walks over klass's stackMap and maps, of whichever pass. -/
namespace Go.Proofs.Ytendpbklcgiafaa
set_option maxRecDepth 100000
open Go.RowKit

@[ext] structure MapD where
  at_ : Int
  locals : List SlotD
  stack : List SlotD
def mapRep (w : World) (Z : Nat → Prop) (cs : List Value) (v : MapD) : Prop := ∃ u1 u2, cs = [.int .i64 v.at_, u1, u2] ∧ (rowT slotT).rep w Z [u1] v.locals ∧ (rowT slotT).rep w Z [u2] v.stack
def mapD : RepT MapD where
  k := 3
  rep := mapRep
  len h := by obtain ⟨_, _, rfl, _⟩ := h; rfl
  next h k hZ := by
    obtain ⟨u1, u2, rfl, h1, h2⟩ := h
    exact ⟨u1, u2, rfl, (rowT slotT).next h1 k hZ, (rowT slotT).next h2 k hZ⟩
def mapDE (C : List Cst) : Enc MapD := mapE (fun d => (d.at_, d.locals, d.stack)) (seqE (kindE (upToC 65535) 2) (fun _ => seqE (rowE 64 (slotE C)) (fun _ => rowE 64 (slotE C))))
theorem Uniq.mapD (C : List Cst) (h : C.length ≤ 1024) : Uniq (mapDE C) :=
  ((Uniq.kind (fits_up 65535 (by omega))).seq (fun _ => ((Uniq.slot C h).row (by omega)).seq (fun _ => (Uniq.slot C h).row (by omega)))).map (fun a b h => by
    obtain ⟨h1, h2, h3⟩ : a.at_ = b.at_ ∧ a.locals = b.locals ∧ a.stack = b.stack := by simpa using h
    exact MapD.ext h1 h2 h3)

section
variable {α : Type} {c : Cx} {w0 w w' : World} {g b off k : Nat} {S0 S S' : Nat → Prop} {N N' : Nat} {s s' : Option (List UInt8)} {cs : List Value} {R : RepT α} {u : Value} {v : α}
/-- What lay of a target's cell when the walk over it began lies there still, for the step at hand. -/
theorem Ov.rep0 (h : Ov c w0 g S0 b off k w S N s cs) (hR : R.rep w0 (Zs c S0 b) [u] v) : R.rep w (Zs c S b) [u] v := R.next hR h.done.only (Zs.mono h.done.sub)
/-- What a step left of a cell lies there still. -/
theorem Ov.repN (h : Ov c w0 g S0 b off k w S N s cs) {w2 : World} {S2 : Nat → Prop} {N2 : Nat} {s2 : Option (List UInt8)} {cs2 : List Value} (h2 : Ov c w0 g S0 b off k w2 S2 N2 s2 cs2) {H : Nat} (hH : w0.heap.size ≤ H) (hR : R.rep w (Zn c S H) [u] v) (hO : Only (Zs c S b) w w2) (hs : ∀ q, S2 q → S q ∨ w.heap.size ≤ q) : R.rep w2 (Zn c S2 w0.heap.size) [u] v :=
  rep_on hR hO (fun _ => Nat.lt_of_lt_of_le h.lt0 hH) hs hH
theorem Ov.put (h : Ov c w0 g S0 b off k w S N s cs) (i : Nat) {x y : Value} (hi : cs[i]? = some x) (hD : Done c w g S b (off + i) 1 w' S' N' s') (hT : Tgt c w' b (off + i) [y]) : Ov c w0 g S0 b off k w' S' N' s' (cs.set i y) := (h.cellAt i hi).2 hD hT
end

theorem slot_z : ∀ (w : World) (Z : Nat → Prop), slotT.rep w Z [.int .i64 0, .int .i64 0] ⟨0, 0⟩ := fun _ _ => rfl
theorem enter_slot (args : Array Value) (W : World) : (callFunc 63 args).run Try.prog W = .ok (.enter 63 args) W := by kernel_rfl
theorem enter_stackMap (args : Array Value) (W : World) : (callFunc 61 args).run Try.prog W = .ok (.enter 61 args) W := by kernel_rfl
theorem enter_trap (args : Array Value) (W : World) : (callFunc 56 args).run Try.prog W = .ok (.enter 56 args) W := by kernel_rfl

/-- What a reader goes over is blank. -/
def mapBlank (cs : List Value) (v : MapD) : Prop := cs = [.int .i64 v.at_, .slice none 0 0, .slice none 0 0] ∧ v.locals = [] ∧ v.stack = []

set_option maxHeartbeats 4000000 in
theorem kStackMap_item (c : Cx) : Item c 61 mapD (mapDE c.C) 390 mapBlank := by
  intro w g S N s b off cs v hP hN hb hT hR hbl
  obtain ⟨u1, u2, rfl, hR1, hR2⟩ := hR
  have hlen := hP.len
  obtain ⟨x0, l1, l2⟩ := v
  have hb1 : c.m.isRd = true → u1 = .slice none 0 0 ∧ l1 = [] := fun h => by
    obtain ⟨h1, h2, h3⟩ := hbl h
    simp at h1
    exact ⟨h1.1, h2⟩
  have hb2 : c.m.isRd = true → u2 = .slice none 0 0 ∧ l2 = [] := fun h => by
    obtain ⟨h1, h2, h3⟩ := hbl h
    simp at h1
    exact ⟨h1.2, h3⟩
  have hO : Ov c w g S b off 3 w S N s [.int .i64 x0, u1, u2] := Ov.start hP hT rfl hb
  have HO0 := Lib.hid hO
  have HR1 : Hid ((rowT slotT).rep w (Zs c S b) [u1] l1) := Lib.hid hR1
  have HR2 : Hid ((rowT slotT).rep w (Zs c S b) [u2] l2) := Lib.hid hR2
  have Hb1 := Lib.hid hb1
  have Hb2 := Lib.hid hb2
  clear hO hP hT hb hR1 hR2 hbl hb1 hb2
  obtain ⟨cv, hcv⟩ : ∃ cv, cv = c.cv := ⟨_, rfl⟩
  obtain ⟨p, hp⟩ : ∃ p, p = c.m.v g := ⟨_, rfl⟩
  rw [← hcv, ← hp]
  have HP : Hid (p = c.m.v g) := Lib.hid hp
  have HC : Hid (cv = c.cv) := Lib.hid hcv
  clear hcv hp
  go_enter Try.func61, Try.ntmps61
  go_wp2_with fail
  refine wp_region_held_drew (S := fun _ => True) (by kernel_rfl) trivial (fun hHeld0 => ?_)
  refine take_yes 0 6 ?_ rfl rfl (by kernel_rfl) (by kernel_rfl) (by kernel_rfl) (fun _ _ _ h => h) (by kernel_rfl) ?_ (by assumption) ?_; rotate_left; (focus (intro w hSw; (try dsimp only at hSw); go_simp; all_goals first | with_reducible rfl)); simp only [Act.put, List.setIfInBounds_toArray, List.set_cons_zero, List.set_cons_succ]
  refine take_yes 1 7 ?_ rfl rfl (by kernel_rfl) (by kernel_rfl) (by kernel_rfl) (fun _ _ _ h => h) (by kernel_rfl) ?_ (by assumption) ?_; rotate_left; (focus (intro w hSw; (try dsimp only at hSw); go_simp; all_goals first | with_reducible rfl)); simp only [Act.put, List.setIfInBounds_toArray, List.set_cons_zero, List.set_cons_succ]
  refine take_yes 2 8 ?_ rfl rfl (by kernel_rfl) (by kernel_rfl) (by kernel_rfl) (fun _ _ _ h => h) (by kernel_rfl) ?_ (by assumption) ?_; rotate_left; (focus (intro w hSw; (try dsimp only at hSw); go_simp; all_goals first | with_reducible rfl)); simp only [Act.put, List.setIfInBounds_toArray, List.set_cons_zero, List.set_cons_succ]
  refine take_yes 3 9 ?_ rfl rfl (by kernel_rfl) (by kernel_rfl) (by kernel_rfl) (fun _ _ _ h => h) (by kernel_rfl) ?_ (by assumption) ?_; rotate_left; (focus (intro w hSw; (try dsimp only at hSw); go_simp; all_goals first | with_reducible rfl)); simp only [Act.put, List.setIfInBounds_toArray, List.set_cons_zero, List.set_cons_succ]
  refine wpAnyH_ready (rs := [4]) (by kernel_rfl) (by simp) ?_
  refine AllReadyH.cons rfl (fun K hK => ?_) AllReadyH.nil
  go_simp
  go_at_call 42; refine (kUpTo_any _ _).mono ?_; rintro e wu ⟨rfl, rfl⟩
  have C1 := HO0.out.numUp (W := (w.drew).alloc (.cells #[.int .i64 65535] 3)) (((Only.refl Empty _).drew).alloc _) w.heap.size 65535 rfl (Blk.new w.drew 3 #[.int .i64 65535]) (Nat.le_refl _) (by omega) 0 rfl (by omega)
  rw [← HP.out] at C1
  have HC1 := Lib.hid C1
  clear C1
  go_wp2_with fail
  refine hK.out _ _ (trivial) (fun _ => ?_)
  clear hK K
  try simp only [Act.put, List.setIfInBounds_toArray, List.set_cons_zero, List.set_cons_succ]
  refine wpAnyH_ready (rs := [5]) (by kernel_rfl) (by simp) ?_
  refine AllReadyH.cons rfl (fun K hK => ?_) AllReadyH.nil
  go_simp
  refine HC1.out.mono ?_
  rintro e w1 ⟨rfl, S1, s1, x1, hO1, hS1⟩
  have HO1 : Hid (Ov c w g S b off 3 w1 S1 (N + 2) s1 [.int .i64 x1, u1, u2]) := Lib.hid hO1
  have HS1 := Lib.hid hS1
  clear hO1 hS1 HC1
  have t1 := (HO1.out.cellAt 1 rfl).1
  have C2 := kRowSlot_any (c := c) 64 (by omega) 64 rfl (kSlot_item c) rfl (Uniq.slot c.C hlen) (by omega) ⟨0, 0⟩ slot_z rfl enter_slot HO1.out.done.pass (by omega) HO1.out.out t1 (HO1.out.rep0 HR1.out) Hb1.out
  rw [← HP.out, ← HC.out] at C2
  have HC2 := Lib.hid C2
  clear C2 t1
  go_wp2_with fail
  refine hK.out _ _ (trivial) (fun _ => ?_)
  clear hK K
  try simp only [Act.put, List.setIfInBounds_toArray, List.set_cons_zero, List.set_cons_succ]
  refine wpAnyH_done (by kernel_rfl) ?_ _
  go_wp2_with fail
  refine HC2.out.mono ?_
  rintro e w2 ⟨rfl, S2, s2, cs2, l1', hD2, hT2, hR2', hS2⟩
  obtain ⟨v1, rfl⟩ : ∃ v1, cs2 = [v1] := by
    have h := (rowT slotT).len hR2'
    match cs2, h with
    | [v1], _ => exact ⟨v1, rfl⟩
  have HO2 : Hid (Ov c w g S b off 3 w2 S2 (N + 2 + (2 + 64 * 3)) s2 [.int .i64 x1, v1, u2]) := Lib.hid (HO1.out.put 1 rfl hD2 hT2)
  have HD2 := Lib.hid hD2
  have HR2' := Lib.hid hR2'
  have HS2 := Lib.hid hS2
  clear hD2 hT2 hR2' hS2 HC2
  have t2 := (HO2.out.cellAt 2 rfl).1
  have C3 := kRowSlot_any (c := c) 64 (by omega) 64 rfl (kSlot_item c) rfl (Uniq.slot c.C hlen) (by omega) ⟨0, 0⟩ slot_z rfl enter_slot HO2.out.done.pass (by omega) HO2.out.out t2 (HO2.out.rep0 HR2.out) Hb2.out
  rw [← HP.out, ← HC.out] at C3
  have HC3 := Lib.hid C3
  clear C3 t2
  go_wp2_with fail
  refine HC3.out.mono ?_
  rintro e w3 ⟨rfl, S3, s3, cs3, l2', hD3, hT3, hR3', hS3⟩
  obtain ⟨v2, rfl⟩ : ∃ v2, cs3 = [v2] := by
    have h := (rowT slotT).len hR3'
    match cs3, h with
    | [v2], _ => exact ⟨v2, rfl⟩
  have HO3 : Hid (Ov c w g S b off 3 w3 S3 (N + 2 + (2 + 64 * 3) + (2 + 64 * 3)) s3 [.int .i64 x1, v1, v2]) := Lib.hid (HO2.out.put 2 rfl hD3 hT3)
  have HD3 := Lib.hid hD3
  have HR3' := Lib.hid hR3'
  have HS3 := Lib.hid hS3
  clear hD3 hT3 hR3' hS3 HC3
  go_wp2
  go_end0
  refine ⟨rfl, S3, s3, _, ⟨x1, l1', l2'⟩, HO3.out.done, HO3.out.tgt, ⟨v1, v2, rfl, ?_, ?_⟩, ?_⟩
  · exact rep_on HR2'.out HD3.out.only (fun _ => Nat.lt_of_lt_of_le HO0.out.lt0 HO1.out.done.only.size) HD3.out.sub HO1.out.done.only.size
  · exact rep_on HR3'.out (Only.refl (Zs c S3 b) _) (fun _ => Nat.lt_of_lt_of_le HO0.out.lt0 HO2.out.done.only.size) (fun _ h => .inl h) HO2.out.done.only.size
  · exact Stp.map (g := fun d : MapD => (d.at_, d.locals, d.stack)) (fun a b h => by
      obtain ⟨h1, h2, h3⟩ : a.at_ = b.at_ ∧ a.locals = b.locals ∧ a.stack = b.stack := by simpa using h
      exact MapD.ext h1 h2 h3) (Stp.seq (Uniq.kind (fits_up 65535 (by omega))) HS1.out (Stp.seq ((Uniq.slot c.C hlen).row (by omega)) HS2.out HS3.out))

end Go.Proofs.Ytendpbklcgiafaa

/- The walks over klass's maps, of whichever pass. -/
namespace Go.Proofs.Ytendpbklcgiafaa
set_option maxRecDepth 100000
open Go.RowKit

def mapsT : List UInt8 := [83, 116, 97, 99, 107, 77, 97, 112]
def someE (C : List Cst) : Enc (List MapD) := filtE (fun l => !l.isEmpty) (rowE 255 (mapDE C))
theorem Uniq.some_ (C : List Cst) (h : C.length ≤ 1024) : Uniq (someE C) := ((Uniq.mapD C h).row (by omega)).filt _
def mapsE (C : List Cst) : Enc (List MapD) := mapE (fun l => (((min l.length 1 : Nat) : Int), l)) (seqE (kindE (upToC 1) 2) (fun p => if p = 0 then nilE (fun l : List MapD => l.isEmpty) else partE C mapsT (someE C)))
theorem empty_one {α : Type} (a b : List α) (h : a.isEmpty = true) (h2 : b.isEmpty = true) : a = b := by
  rw [List.isEmpty_iff.1 h, List.isEmpty_iff.1 h2]
theorem Uniq.maps2 (C : List Cst) (h : C.length ≤ 1024) (p : Int) : Uniq (if p = 0 then nilE (fun l : List MapD => l.isEmpty) else partE C mapsT (someE C)) := by
  split
  · exact Uniq.nil_ empty_one
  · exact Uniq.part (Uniq.some_ C h) C mapsT
theorem Uniq.maps (C : List Cst) (h : C.length ≤ 1024) : Uniq (mapsE C) :=
  ((Uniq.kind (fits_up 1 (by omega))).seq (fun p => Uniq.maps2 C h p)).map (fun _ _ h => (Prod.mk.inj h).2)

theorem row_ne {α : Type} {e : Enc α} {most : Nat} (v : List α) (x : List UInt8) (h : rowE most e v = some x) : x ≠ [] := by
  unfold rowE mapE seqE at h
  rw [Option.bind_eq_some_iff] at h
  obtain ⟨y, hy, h⟩ := h
  rw [Option.map_eq_some_iff] at h
  obtain ⟨z, hz, rfl⟩ := h
  exact fun k => kind_ne (by omega) _ _ hy (List.append_eq_nil_iff.1 k).1
theorem map_z : ∀ (w : World) (Z : Nat → Prop), mapD.rep w Z [.int .i64 0, .slice none 0 0, .slice none 0 0] ⟨0, [], []⟩ := fun w Z => ⟨_, _, rfl, ⟨none, 0, 0, rfl, rowS_nil _ _ _⟩, ⟨none, 0, 0, rfl, rowS_nil _ _ _⟩⟩

section
variable {c : Cx} {w : World} {g b off : Nat} {S : Nat → Prop} {N : Nat} {s : Option (List UInt8)}

set_option maxHeartbeats 4000000 in
theorem maps1_steps {w : World} {S : Nat → Prop} {b off q5 q3 : Nat} {u : Value} {l : List MapD} (hlen : c.C.length ≤ 1024) (h5 : Blk w q5 119 #[.pointer (some ⟨b, off, none⟩)]) (h3 : Blk w q3 79 #[c.cv]) (n5 : ¬ Zs c S b q5) (n3 : ¬ Zs c S b q3) (hb : ¬ S b) (hT : Tgt c w b off [u])
    (hR : (rowT mapD).rep w (Zs c S b) [u] l) (hbl : c.m.isRd = true → u = .slice none 0 0 ∧ l = []) (n5b : q5 ≠ b) : Steps c 59 #[.pointer (some ⟨q5, 0, none⟩), .pointer (some ⟨q3, 0, none⟩)] (rowT mapD) (someE c.C) 99452 w S b off l := by
  refine ⟨fun args W => by kernel_rfl, fun W g1 S1 N1 s1 hP hN hO hs => ?_⟩
  have h5W : Blk W q5 119 #[.pointer (some ⟨b, off, none⟩)] := hO.blk h5 (fun h => n5 (.inl h))
  have h3W : Blk W q3 79 #[c.cv] := hO.blk h3 (fun h => n3 (.inl h))
  have hb1 : ¬ S1 b := fun h => by
    rcases hs b h with h | h
    · exact hb h
    · have := hT.lt; omega
  have hTW := hT.only hO hb
  have hRW : (rowT mapD).rep W (Zs c S1 b) [u] l := (rowT mapD).next hR (hO.mono (fun _ _ h => .inl h)) (Zs.mono hs)
  have n5W : ¬ Zs c S1 b q5 := fun h => by
    rcases h with h | h
    · rcases hs _ h with h | h
      · exact n5 (.inl h)
      · have := h5.lt; omega
    · exact n5b h.2
  have C1 := kRowMap_any (c := c) 255 (by omega) 255 rfl (kStackMap_item c) rfl (Uniq.mapD c.C hlen) (by omega) ⟨0, [], []⟩ map_z ⟨rfl, rfl, rfl⟩ enter_stackMap hP (by omega) hb1 hTW hRW hbl
  have HDry : Hid (∀ s2 l2, Stp c.m.isRd (rowE 255 (mapDE c.C)) s1 l s2 l2 → c.dry → s2 = none) := Lib.hid (fun s2 l2 hn => hP.dry_stp row_ne hn)
  have eArr : (#[c.m.v g1] ++ #[.pointer (some ⟨q5, 0, none⟩), .pointer (some ⟨q3, 0, none⟩)] : Array Value) = #[c.m.v g1, .pointer (some ⟨q5, 0, none⟩), .pointer (some ⟨q3, 0, none⟩)] := rfl
  rw [eArr]
  have c5 := h5W.cell 0
  have c3 := h3W.cell 0
  simp at c5 c3
  have rA := fun W => reach_ask c.m g1 W
  have nA := fun W => nil_ask c.m g1 W
  have eA : ∀ (args : Array Value) (W : World), (callFunc 18 args).run Try.prog W = .ok (.enter 18 args) W := fun args W => by kernel_rfl
  have H5W : Hid (Blk W q5 119 #[.pointer (some ⟨b, off, none⟩)] ∧ ¬ Zs c S1 b q5) := Lib.hid ⟨h5W, n5W⟩
  have Hs := Lib.hid hs
  have HTb : Hid (b < W.heap.size ∧ ¬ S1 b) := Lib.hid ⟨hTW.lt, hb1⟩
  obtain ⟨T, hTy⟩ : ∃ T, T = c.m.T := ⟨_, rfl⟩
  have hp : c.m.v g1 = .iface T (.pointer (some ⟨g1, 0, none⟩)) := by rw [hTy]; rfl
  obtain ⟨cv, hcv⟩ : ∃ cv, cv = c.cv := ⟨_, rfl⟩
  rw [hp, ← hcv] at C1
  rw [hp]
  rw [← hcv] at c3
  rw [← hTy] at rA nA
  have hcv2 : ∃ A n cap, cv = .slice A n cap := ⟨_, _, _, hcv⟩
  obtain ⟨cA, cn, cc, hcv3⟩ := hcv2
  rw [hcv3] at c3 C1
  have HC1 := Lib.hid C1
  clear C1 hP hO hs h5W h3W hb1 hTW hRW n5W eArr hTy hp hcv hcv3 h5 h3 n5 n3 hb hT hR hbl n5b
  go_enter Try.func59, Try.ntmps59
  go_wp2_with fail
  refine HC1.out.mono ?_
  rintro e1 w1 ⟨rfl, S2, s2, cs2, l2, hD2, hT2, hR2, hS2⟩
  have hR2' := hR2
  obtain ⟨A2, n2, cp2, rfl, hRS⟩ := hR2
  have hn2 : l2.length = n2 := hRS.1
  have hnc2 : n2 ≤ cp2 := hRS.2.1
  have hcm2 : cp2 ≤ 9223372036854775807 := by have h2 := hRS.2.2.1; unfold maxLen at h2; omega
  have d5 : w1.cell? ⟨q5, 0, none⟩ = some (.pointer (some ⟨b, off, none⟩)) := (hD2.only.cell (p := ⟨q5, 0, none⟩) H5W.out.1.lt H5W.out.2).trans c5
  have db : w1.cell? ⟨b, off, none⟩ = some (.slice A2 n2 cp2) := by have := hT2.cell 0 _ rfl; rwa [Nat.add_zero] at this
  have hO2 : Ov c W g1 S1 b off 1 w1 S2 (N1 + (2 + 255 * 390)) s2 [.slice A2 n2 cp2] := ⟨hD2, hT2, rfl, HTb.out.2, HTb.out.1⟩
  have HO2d := Lib.hid (hO2.only ((Only.refl Empty w1).drew))
  have Hn2 := Lib.hid hn2
  have HR2 := Lib.hid hR2'
  have HS2 := Lib.hid hS2
  have h5s : ¬ S2 q5 := fun h => by
    rcases hD2.sub _ h with h | h
    · exact H5W.out.2 (.inl h)
    · have := H5W.out.1.lt; omega
  have H5s : Hid (¬ S2 q5 ∧ q5 < w1.heap.size) := Lib.hid ⟨h5s, Nat.lt_of_lt_of_le H5W.out.1.lt hD2.only.size⟩
  clear hD2 hT2 hR2' hS2 hO2 hRS hn2 h5s HC1 c5 c3
  by_cases h0 : 0 < n2
  · have hgt : decide ((0 : Int) < (n2 : Int)) = true := decide_eq_true (by omega)
    go_wp2_with fail
    refine wp_region_held_drew (S := fun W => W.cell? ⟨q5, 0, none⟩ = some (.pointer (some ⟨b, off, none⟩)) ∧ W.cell? ⟨b, off, none⟩ = some (.slice A2 n2 cp2)) (by kernel_rfl) ⟨d5, db⟩ (fun hHeld0 => ?_)
    refine take_yes 0 9 ?_ rfl rfl (by kernel_rfl) (by kernel_rfl) (by kernel_rfl) (fun _ _ _ h => h) (by kernel_rfl) ?_ (by assumption) ?_; rotate_left; (focus (intro w hSw; (try dsimp only at hSw); go_simp; all_goals first | with_reducible rfl)); simp only [Act.put, List.setIfInBounds_toArray, List.set_cons_zero, List.set_cons_succ]
    refine take_yes 1 10 (.pointer (some ⟨b, off, none⟩)) rfl rfl (by kernel_rfl) (by kernel_rfl) (by kernel_rfl) (fun _ _ _ h => h) (by kernel_rfl) ?_ (by assumption) ?_; (focus (intro w hSw; (try dsimp only at hSw); go_simp; all_goals first | with_reducible rfl)); simp only [Act.put, List.setIfInBounds_toArray, List.set_cons_zero, List.set_cons_succ]
    refine take_yes 2 11 ?_ rfl rfl (by kernel_rfl) (by kernel_rfl) (by kernel_rfl) (fun _ _ _ h => h) (by kernel_rfl) ?_ (by assumption) ?_; rotate_left; (focus (intro w hSw; (try dsimp only at hSw); go_simp; all_goals first | with_reducible rfl)); simp only [Act.put, List.setIfInBounds_toArray, List.set_cons_zero, List.set_cons_succ]
    refine take_yes 3 12 (.slice A2 n2 cp2) rfl rfl (by kernel_rfl) (by kernel_rfl) (by kernel_rfl) (fun _ _ _ h => h) (by kernel_rfl) ?_ (by assumption) ?_; (focus (intro w hSw; (try dsimp only at hSw); go_simp; all_goals first | with_reducible rfl)); simp only [Act.put, List.setIfInBounds_toArray, List.set_cons_zero, List.set_cons_succ]
    refine take_yes 4 13 ?_ rfl rfl (by kernel_rfl) (by kernel_rfl) (by kernel_rfl) (fun _ _ _ h => h) (by kernel_rfl) ?_ (by assumption) ?_; rotate_left; (focus (intro w hSw; (try dsimp only at hSw); go_simp; all_goals first | with_reducible rfl)); simp only [Act.put, List.setIfInBounds_toArray, List.set_cons_zero, List.set_cons_succ]
    refine take_yes 5 14 (.bool true) rfl rfl (by kernel_rfl) (by kernel_rfl) (by kernel_rfl) (fun _ _ _ h => h) (by kernel_rfl) ?_ (by assumption) ?_; (focus (intro w hSw; (try dsimp only at hSw); go_simp; all_goals first | with_reducible rfl)); simp only [Act.put, List.setIfInBounds_toArray, List.set_cons_zero, List.set_cons_succ]
    refine take_yes 6 15 ?_ rfl rfl (by kernel_rfl) (by kernel_rfl) (by kernel_rfl) (fun _ _ _ h => h) (by kernel_rfl) ?_ (by assumption) ?_; rotate_left; (focus (intro w hSw; (try dsimp only at hSw); go_simp; all_goals first | with_reducible rfl)); simp only [Act.put, List.setIfInBounds_toArray, List.set_cons_zero, List.set_cons_succ]
    refine take_yes 7 16 ?_ rfl rfl (by kernel_rfl) (by kernel_rfl) (by kernel_rfl) (fun _ _ _ h => h) (by kernel_rfl) ?_ (by assumption) ?_; rotate_left; (focus (intro w hSw; (try dsimp only at hSw); go_simp; all_goals first | with_reducible rfl)); simp only [Act.put, List.setIfInBounds_toArray, List.set_cons_zero, List.set_cons_succ]
    refine take_yes 8 17 ?_ rfl rfl (by kernel_rfl) (by kernel_rfl) (by kernel_rfl) (fun _ _ _ h => h) (by kernel_rfl) ?_ (by assumption) ?_; rotate_left; (focus (intro w hSw; (try dsimp only at hSw); go_simp; all_goals first | with_reducible rfl)); simp only [Act.put, List.setIfInBounds_toArray, List.set_cons_zero, List.set_cons_succ]
    refine wpAnyH_ready (rs := [9]) (by kernel_rfl) (by simp) ?_
    refine AllReadyH.cons rfl (fun K hK => ?_) AllReadyH.nil
    go_simp
    refine (ask_any HO2d.out.done.pass true (fun _ => .inl rfl)).mono ?_
    rintro e3 w3 ⟨rfl, hP3, hO3⟩
    have HO3 := Lib.hid (HO2d.out.asked hP3 hO3)
    have g5 : w3.cell? ⟨q5, 0, none⟩ = some (.pointer (some ⟨b, off, none⟩)) := (hO3.cell (p := ⟨q5, 0, none⟩) H5s.out.2 H5s.out.1).trans d5
    have gb : w3.cell? ⟨b, off, none⟩ = some (.slice A2 n2 cp2) := by have := HO3.out.tgt.cell 0 _ rfl; rwa [Nat.add_zero] at this
    have HOn : Hid (Only S2 w1 w3) := Lib.hid (((Only.refl S2 w1).drew).trans hO3)
    clear hP3 hO3
    go_wp2_with fail
    refine hK.out _ _ (⟨g5, gb⟩) (fun _ => ?_)
    clear hK K
    try simp only [Act.put, List.setIfInBounds_toArray, List.set_cons_zero, List.set_cons_succ]
    refine wpAnyH_done (by kernel_rfl) ?_ _
    go_wp2
    go_end0
    have h := HO3.out
    rw [if_pos trivial] at h
    refine ⟨rfl, S2, s2, _, l2, h.done, h.tgt, (rowT mapD).next HR2.out (HOn.out.mono (fun _ _ h => .inl h)) (fun q _ h => h), ?_⟩
    have hf := Stp.filt ((Uniq.mapD c.C hlen).row (by omega)) (fun l : List MapD => !l.isEmpty) HS2.out
    rw [if_pos (by cases l2 with
      | nil => have := Hn2.out; simp at this; omega
      | cons _ _ => rfl)] at hf
    exact hf
  · have hn0 : n2 = 0 := by omega
    subst hn0
    go_wp2_with fail
    refine wp_region_held_drew (S := fun W => W.cell? ⟨q5, 0, none⟩ = some (.pointer (some ⟨b, off, none⟩)) ∧ W.cell? ⟨b, off, none⟩ = some (.slice A2 0 cp2)) (by kernel_rfl) ⟨d5, db⟩ (fun hHeld0 => ?_)
    refine take_yes 0 9 ?_ rfl rfl (by kernel_rfl) (by kernel_rfl) (by kernel_rfl) (fun _ _ _ h => h) (by kernel_rfl) ?_ (by assumption) ?_; rotate_left; (focus (intro w hSw; (try dsimp only at hSw); go_simp; all_goals first | with_reducible rfl)); simp only [Act.put, List.setIfInBounds_toArray, List.set_cons_zero, List.set_cons_succ]
    refine take_yes 1 10 (.pointer (some ⟨b, off, none⟩)) rfl rfl (by kernel_rfl) (by kernel_rfl) (by kernel_rfl) (fun _ _ _ h => h) (by kernel_rfl) ?_ (by assumption) ?_; (focus (intro w hSw; (try dsimp only at hSw); go_simp; all_goals first | with_reducible rfl)); simp only [Act.put, List.setIfInBounds_toArray, List.set_cons_zero, List.set_cons_succ]
    refine take_yes 2 11 ?_ rfl rfl (by kernel_rfl) (by kernel_rfl) (by kernel_rfl) (fun _ _ _ h => h) (by kernel_rfl) ?_ (by assumption) ?_; rotate_left; (focus (intro w hSw; (try dsimp only at hSw); go_simp; all_goals first | with_reducible rfl)); simp only [Act.put, List.setIfInBounds_toArray, List.set_cons_zero, List.set_cons_succ]
    refine take_yes 3 12 (.slice A2 0 cp2) rfl rfl (by kernel_rfl) (by kernel_rfl) (by kernel_rfl) (fun _ _ _ h => h) (by kernel_rfl) ?_ (by assumption) ?_; (focus (intro w hSw; (try dsimp only at hSw); go_simp; all_goals first | with_reducible rfl)); simp only [Act.put, List.setIfInBounds_toArray, List.set_cons_zero, List.set_cons_succ]
    refine take_yes 4 13 ?_ rfl rfl (by kernel_rfl) (by kernel_rfl) (by kernel_rfl) (fun _ _ _ h => h) (by kernel_rfl) ?_ (by assumption) ?_; rotate_left; (focus (intro w hSw; (try dsimp only at hSw); go_simp; all_goals first | with_reducible rfl)); simp only [Act.put, List.setIfInBounds_toArray, List.set_cons_zero, List.set_cons_succ]
    refine take_yes 5 14 (.bool false) rfl rfl (by kernel_rfl) (by kernel_rfl) (by kernel_rfl) (fun _ _ _ h => h) (by kernel_rfl) ?_ (by assumption) ?_; (focus (intro w hSw; (try dsimp only at hSw); go_simp; all_goals first | with_reducible rfl)); simp only [Act.put, List.setIfInBounds_toArray, List.set_cons_zero, List.set_cons_succ]
    refine take_yes 6 15 ?_ rfl rfl (by kernel_rfl) (by kernel_rfl) (by kernel_rfl) (fun _ _ _ h => h) (by kernel_rfl) ?_ (by assumption) ?_; rotate_left; (focus (intro w hSw; (try dsimp only at hSw); go_simp; all_goals first | with_reducible rfl)); simp only [Act.put, List.setIfInBounds_toArray, List.set_cons_zero, List.set_cons_succ]
    refine take_yes 7 16 ?_ rfl rfl (by kernel_rfl) (by kernel_rfl) (by kernel_rfl) (fun _ _ _ h => h) (by kernel_rfl) ?_ (by assumption) ?_; rotate_left; (focus (intro w hSw; (try dsimp only at hSw); go_simp; all_goals first | with_reducible rfl)); simp only [Act.put, List.setIfInBounds_toArray, List.set_cons_zero, List.set_cons_succ]
    refine take_yes 8 17 ?_ rfl rfl (by kernel_rfl) (by kernel_rfl) (by kernel_rfl) (fun _ _ _ h => h) (by kernel_rfl) ?_ (by assumption) ?_; rotate_left; (focus (intro w hSw; (try dsimp only at hSw); go_simp; all_goals first | with_reducible rfl)); simp only [Act.put, List.setIfInBounds_toArray, List.set_cons_zero, List.set_cons_succ]
    refine wpAnyH_ready (rs := [9]) (by kernel_rfl) (by simp) ?_
    refine AllReadyH.cons rfl (fun K hK => ?_) AllReadyH.nil
    go_simp
    refine (ask_any HO2d.out.done.pass false (fun hd => .inr (HDry.out _ _ HS2.out hd))).mono ?_
    rintro e3 w3 ⟨rfl, hP3, hO3⟩
    have HO3 := Lib.hid (HO2d.out.asked hP3 hO3)
    have g5 : w3.cell? ⟨q5, 0, none⟩ = some (.pointer (some ⟨b, off, none⟩)) := (hO3.cell (p := ⟨q5, 0, none⟩) H5s.out.2 H5s.out.1).trans d5
    have gb : w3.cell? ⟨b, off, none⟩ = some (.slice A2 0 cp2) := by have := HO3.out.tgt.cell 0 _ rfl; rwa [Nat.add_zero] at this
    have HOn : Hid (Only S2 w1 w3) := Lib.hid (((Only.refl S2 w1).drew).trans hO3)
    clear hP3 hO3
    go_wp2_with fail
    refine hK.out _ _ (⟨g5, gb⟩) (fun _ => ?_)
    clear hK K
    try simp only [Act.put, List.setIfInBounds_toArray, List.set_cons_zero, List.set_cons_succ]
    refine wpAnyH_done (by kernel_rfl) ?_ _
    go_wp2
    go_end0
    have h := HO3.out
    rw [if_neg (by decide)] at h
    refine ⟨rfl, S2, none, _, l2, h.done, h.tgt, (rowT mapD).next HR2.out (HOn.out.mono (fun _ _ h => .inl h)) (fun q _ h => h), ?_⟩
    have hf := Stp.filt ((Uniq.mapD c.C hlen).row (by omega)) (fun l : List MapD => !l.isEmpty) HS2.out
    have hnil : l2 = [] := List.eq_nil_of_length_eq_zero Hn2.out
    rw [if_neg (by rw [hnil]; decide)] at hf
    exact hf
end

end Go.Proofs.Ytendpbklcgiafaa

/- How long what encodes is; the walk over klass's maps, of whichever pass. -/
namespace Go.Proofs.Ytendpbklcgiafaa
set_option maxRecDepth 100000
open Go.RowKit

section
variable {α β : Type}
/-- What encodes has at most so many bytes. -/
def Bd (e : Enc α) (m : Nat) : Prop := ∀ v x, e v = some x → x.length ≤ m
theorem Bd.kind (p : Int → Bool) (k : Nat) : Bd (kindE p k) k := fun _ _ h => Nat.le_of_eq (kind_len h)
theorem Bd.just (k x : Nat) : Bd (justE k x) k := fun _ _ h => by cases h; rw [putL_len]; exact Nat.le_refl _
theorem Bd.seq {e : Enc α} {f : α → Enc β} {m n : Nat} (h : Bd e m) (k : ∀ a, Bd (f a) n) : Bd (seqE e f) (m + n) := fun v x hx => by
  unfold seqE at hx
  rw [Option.bind_eq_some_iff] at hx
  obtain ⟨y, hy, hx⟩ := hx
  rw [Option.map_eq_some_iff] at hx
  obtain ⟨z, hz, rfl⟩ := hx
  have h1 := h _ _ hy
  have h2 := k _ _ _ hz
  rw [List.length_append]
  omega
theorem Bd.map {e : Enc α} {m : Nat} (h : Bd e m) (g : β → α) : Bd (mapE g e) m := fun v x hx => h _ x hx
theorem Bd.filt {e : Enc α} {m : Nat} (h : Bd e m) (p : α → Bool) : Bd (filtE p e) m := fun v x hx => by
  unfold filtE at hx
  split at hx
  · exact h v x hx
  · cases hx
theorem Bd.le {e : Enc α} {m n : Nat} (h : Bd e m) (k : m ≤ n) : Bd e n := fun v x hx => Nat.le_trans (h v x hx) k
theorem Bd.nil_ (p : α → Bool) : Bd (nilE p) 0 := fun v x hx => by
  unfold nilE at hx
  split at hx
  · cases hx; exact Nat.le_refl _
  · cases hx
theorem Bd.cat {e : Enc α} {m : Nat} (h : Bd e m) : ∀ (l : List α) (x : List UInt8), catE e l = some x → x.length ≤ l.length * m := by
  intro l
  induction l with
  | nil => intro x hx; cases hx; simp
  | cons v l ih =>
    intro x hx
    rw [catE, Option.bind_eq_some_iff] at hx
    obtain ⟨y, hy, hx⟩ := hx
    rw [Option.map_eq_some_iff] at hx
    obtain ⟨z, hz, rfl⟩ := hx
    have h1 := h _ _ hy
    have h2 := ih z hz
    rw [List.length_append, List.length_cons, Nat.succ_mul]
    omega
theorem Bd.row {e : Enc α} {m : Nat} (h : Bd e m) (most : Nat) : Bd (rowE most e) (2 + most * m) := fun l x hx => by
  unfold rowE mapE seqE at hx
  simp only at hx
  rw [Option.bind_eq_some_iff] at hx
  obtain ⟨y, hy, hx⟩ := hx
  rw [Option.map_eq_some_iff] at hx
  obtain ⟨z, hz, rfl⟩ := hx
  have h1 := kind_len hy
  unfold kindE at hy
  split at hy
  · rename_i hp
    have hl := of_decide_eq_true hp
    unfold manyE at hz
    split at hz
    · have h2 := h.cat l z hz
      have h3 : l.length * m ≤ most * m := Nat.mul_le_mul_right _ (by omega)
      rw [List.length_append]
      omega
    · cases hz
  · cases hy
theorem Bd.block {e : Enc α} {m : Nat} (h : Bd e m) : Bd (blockE e) (4 + m) := fun v x hx => by
  unfold blockE at hx
  rw [Option.map_eq_some_iff] at hx
  obtain ⟨z, hz, rfl⟩ := hx
  have := h v z hz
  rw [List.length_append, putL_len]
  omega
theorem Bd.part {e : Enc α} {m : Nat} (h : Bd e m) (C : List Cst) (t : List UInt8) : Bd (partE C t e) (6 + m) := by
  unfold partE
  split
  · exact (((Bd.just 2 _).seq (fun _ => h.block)).map _).le (by omega)
  · intro v x hx; cases hx
theorem Bd.short {e : Enc α} {m : Nat} (h : Bd e m) (hm : m < 4294967296) : Short e := fun v x hx => by have := h v x hx; omega
end
theorem Bd.slot (C : List Cst) : Bd (slotE C) 3 := (((Bd.kind _ 1).seq (n := 2) (fun t => by
  split
  · exact Bd.kind _ 2
  · exact (Bd.nil_ _).le (by omega))).map _).le (by omega)
theorem Bd.mapD (C : List Cst) : Bd (mapDE C) 390 := (((Bd.kind _ 2).seq (fun _ => ((Bd.slot C).row 64).seq (fun _ => (Bd.slot C).row 64))).map _).le (by omega)
theorem Bd.some_ (C : List Cst) : Bd (someE C) 99452 := (((Bd.mapD C).row 255).filt _).le (by omega)
theorem Bd.maps (C : List Cst) : Bd (mapsE C) 99460 := (((Bd.kind _ 2).seq (n := 99458) (fun p => by
  split
  · exact (Bd.nil_ _).le (by omega)
  · exact (Bd.some_ C).part C mapsT)).map _).le (by omega)

section
variable {c : Cx} {w : World} {g b off : Nat} {S : Nat → Prop} {N : Nat} {s : Option (List UInt8)}
theorem rows_keep {α : Type} {R : RepT α} {w' : World} {S' : Nat → Prop} {u : Value} {l : List α} (hR : (rowT R).rep w (Zs c S b) [u] l) (hbl : c.m.isRd = true → u = .slice none 0 0 ∧ l = []) (hO : Only S w w') (hs : ∀ q, S' q → S q ∨ w.heap.size ≤ q) : (rowT R).rep w' (Zn c S' w.heap.size) [u] l := by
  cases hr : c.m.isRd with
  | true =>
    obtain ⟨rfl, rfl⟩ := hbl hr
    exact ⟨none, 0, 0, rfl, rowS_nil _ _ _⟩
  | false =>
    refine (rowT R).next hR (hO.mono (fun _ _ h => .inl h)) (fun q hq hz => ?_)
    rcases hz with hz | ⟨h3, _⟩
    · exact .inl ((hs q hz).resolve_right (by omega))
    · rw [hr] at h3; cases h3

theorem Stp.ok {α : Type} {rd : Bool} {e : Enc α} {s s' : Option (List UInt8)} {v v' : α} (h : Stp rd e s v s' v') (hs : s' ≠ none) : ∃ x, e v' = some x := by
  cases rd with
  | false =>
    obtain ⟨rfl, rfl⟩ := h
    cases s with
    | none => exact absurd rfl hs
    | some out =>
      cases he : e v' with
      | none => rw [he] at hs; exact absurd rfl hs
      | some x => exact ⟨x, rfl⟩
  | true =>
    cases s with
    | none => exact absurd h hs
    | some b =>
      rcases h with ⟨r, _, x, hx, _⟩ | ⟨h, _⟩
      · exact ⟨x, hx⟩
      · exact absurd h hs
theorem some_ne {C : List Cst} {l : List MapD} {x : List UInt8} (h : partE C mapsT (someE C) l = some x) : l ≠ [] := by
  rintro rfl
  unfold partE at h
  cases hf : firstC C mapsT with
  | none => rw [hf] at h; cases h
  | some i =>
    rw [hf] at h
    simp [mapE, seqE, blockE, someE, filtE, justE] at h
theorem Stp.mapsNo {rd : Bool} {C : List Cst} {s s1 : Option (List UInt8)} {pv : Int} {l : List MapD} (hpv : pv = ((min l.length 1 : Nat) : Int)) (h : Stp rd (kindE (upToC 1) 2) s pv s1 0) (hrd : rd = true → l = []) : Stp rd (mapsE C) s l s1 l := by
  have hl : l = [] := by
    cases rd with
    | true => exact hrd rfl
    | false =>
      have h0 : (0 : Int) = pv := h.1
      cases l with
      | nil => rfl
      | cons a b => simp at hpv; omega
  subst hl
  refine Stp.counted (len := fun l : List MapD => ((min l.length 1 : Nat) : Int)) (f := fun p => if p = 0 then nilE (fun l : List MapD => l.isEmpty) else partE C mapsT (someE C)) (Uniq.kind (fits_up 1 (by omega))) hpv h ?_ (fun _ => rfl)
  rw [if_pos rfl]
  have h2 := Stp.nil_ (rd := rd) (p := fun l : List MapD => l.isEmpty) empty_one s1 [] (fun _ => rfl)
  have e : (if ([] : List MapD).isEmpty = true then s1 else none) = s1 := rfl
  rw [e] at h2
  exact h2
theorem Stp.mapsYes {rd : Bool} {C : List Cst} {s s1 s2 : Option (List UInt8)} {pv x1 : Int} {l l' : List MapD} (hpv : pv = ((min l.length 1 : Nat) : Int)) (h : Stp rd (kindE (upToC 1) 2) s pv s1 x1) (h0 : x1 ≠ 0) (k : Stp rd (partE C mapsT (someE C)) s1 l s2 l') : Stp rd (mapsE C) s l s2 l' := by
  refine Stp.counted (len := fun l : List MapD => ((min l.length 1 : Nat) : Int)) (f := fun p => if p = 0 then nilE (fun l : List MapD => l.isEmpty) else partE C mapsT (someE C)) (Uniq.kind (fits_up 1 (by omega))) hpv h ?_ (fun hs => ?_)
  · rw [if_neg h0]
    exact k
  · obtain ⟨x, hx⟩ := k.ok hs
    have hne := some_ne hx
    have hs1 : s1 ≠ none := fun e => by
      subst e
      exact hs k.of_none.1
    obtain ⟨y, hy⟩ := h.ok hs1
    unfold kindE at hy
    split at hy
    · rename_i hu
      unfold upToC at hu
      have hu := of_decide_eq_true hu
      have hl : 1 ≤ l'.length := by
        cases l' with
        | nil => exact absurd rfl hne
        | cons a b => simp
      have : min l'.length 1 = 1 := by omega
      rw [this]
      omega
    · cases hy

/-- Where maps stands when it has told how many attributes there are. -/
def MapsN (c : Cx) (w : World) (g : Nat) (S : Nat → Prop) (N : Nat) (s : Option (List UInt8)) (b off : Nat) (cv : Value) (pv : Int) (e1 : Ending) (w1 : World) : Prop :=
  e1 = .returned (.tuple #[]) ∧ ∃ S1 s1 x1, PassAt c w1 g S1 (N + 2) s1 ∧ (∀ q, S1 q → S q ∨ w.heap.size + 1 + 1 ≤ q) ∧ Only S w w1 ∧ Blk w1 w.heap.size 79 #[cv] ∧ Blk w1 (w.heap.size + 1) 119 #[.pointer (some ⟨b, off, none⟩)] ∧
    w1.cell? ⟨w.heap.size + 1 + 1, 0, none⟩ = some (.int .i64 x1) ∧ Stp c.m.isRd (kindE (upToC 1) 2) s pv s1 x1
theorem mapsN_any (hP : PassAt c w g S N s) (hN : N + 2 ≤ 16000000) {cv p : Value} {pv : Int} (hcv : cv = c.cv) (hp : p = c.m.v g) :
    Calls Try.prog 28 #[p, .pointer (some ⟨w.heap.size + 1 + 1, 0, none⟩), .func (.func 50) #[] #[.pointer (some ⟨w.heap.size + 1 + 1 + 1, 0, none⟩)]]
      ((((w.alloc (.cells #[cv] 79)).alloc (.cells #[.pointer (some ⟨b, off, none⟩)] 119)).alloc (.cells #[.int .i64 pv] 3)).alloc (.cells #[.int .i64 1] 3)) (MapsN c w g S N s b off cv pv) := by
  obtain ⟨W2, hW2⟩ : ∃ W2, W2 = (w.alloc (.cells #[cv] 79)).alloc (.cells #[.pointer (some ⟨b, off, none⟩)] 119) := ⟨_, rfl⟩
  rw [← hW2]
  have hO2 : Only Empty w W2 := by rw [hW2]; exact ((Only.refl Empty w).alloc _).alloc _
  have hs2 : W2.heap.size = w.heap.size + 1 + 1 := by rw [hW2]; simp
  have hB3 : Blk W2 w.heap.size 79 #[cv] := by rw [hW2]; exact (Blk.new w 79 #[cv]).alloc _
  have hB5 : Blk W2 (w.heap.size + 1) 119 #[.pointer (some ⟨b, off, none⟩)] := by
    have h := Blk.new (w.alloc (.cells #[cv] 79)) 119 #[.pointer (some ⟨b, off, none⟩)]
    have hs : (w.alloc (.cells #[cv] 79)).heap.size = w.heap.size + 1 := by simp
    rw [hs] at h
    rw [hW2]
    exact h
  have hP2 := hP.only hO2 (fun _ _ h => h.elim) (fun _ _ h => h.elim)
  have hP3 : PassAt c (W2.alloc (.cells #[.int .i64 pv] 3)) g S N s := hP2.only ((Only.refl Empty _).alloc _) (fun _ _ h => h.elim) (fun _ _ h => h.elim)
  have hs3 : (W2.alloc (.cells #[.int .i64 pv] 3)).heap.size = w.heap.size + 1 + 1 + 1 := by simp [hs2]
  have hO1 : Ov c (W2.alloc (.cells #[.int .i64 pv] 3)) g S W2.heap.size 0 1 (W2.alloc (.cells #[.int .i64 pv] 3)) S N s [.int .i64 pv] := Ov.start hP3 (Tgt.new hP2 3 [.int .i64 pv]) rfl (hP2.fresh (Nat.le_refl _))
  have C1 := hO1.numUp (W := (W2.alloc (.cells #[.int .i64 pv] 3)).alloc (.cells #[.int .i64 1] 3)) ((Only.refl Empty _).alloc _) (w.heap.size + 1 + 1 + 1) 1 rfl (by have h := Blk.new (W2.alloc (.cells #[.int .i64 pv] 3)) 3 #[.int .i64 1]; rwa [hs3] at h) (by rw [hs3]; exact Nat.le_refl _) (by omega) 0 rfl (by omega)
  rw [Nat.add_zero, hs2, ← hp] at C1
  refine C1.mono ?_
  rintro e1 w1 ⟨rfl, S1, s1, x1, hO, hS⟩
  obtain ⟨h1, h2, h3⟩ := hO.done.went (w := w) (hO2.alloc _) (by omega)
  have hz : ∀ q, q < w.heap.size + 1 + 1 → w.heap.size ≤ q → ¬ Zs c S (w.heap.size + 1 + 1) q := fun q hq hq2 h => by
    rcases h with h | ⟨_, h⟩
    · exact hP.fresh hq2 h
    · omega
  refine ⟨rfl, S1, s1, x1, h1, fun q hq => (hO.done.sub q hq).imp id (fun h => by rw [hs3] at h; omega), h3, hO.done.only.blk (hB3.alloc _) (hz _ (by omega) (by omega)), hO.done.only.blk (hB5.alloc _) (hz _ (by omega) (by omega)), ?_, hS⟩
  have := hO.tgt.cell 0 _ rfl
  exact this
theorem mapsP_any {w1 : World} {S1 : Nat → Prop} {s1 : Option (List UInt8)} {cv u : Value} {l : List MapD} (hdry : c.dry → s1 = none) (hP1 : PassAt c w1 g S1 (N + 2) s1) (hN : N + 99460 ≤ 16000000) (hlen : c.C.length ≤ 1024) (h3 : Blk w1 w.heap.size 79 #[cv]) (h5 : Blk w1 (w.heap.size + 1) 119 #[.pointer (some ⟨b, off, none⟩)]) (hP : PassAt c w g S N s)
    (hs1 : ∀ q, S1 q → S q ∨ w.heap.size + 1 + 1 ≤ q) (hO1 : Only S w w1) (hb : ¬ S b) (hT : Tgt c w b off [u]) (hR : (rowT mapD).rep w (Zs c S b) [u] l) (hbl : c.m.isRd = true → u = .slice none 0 0 ∧ l = []) (hcv : cv = c.cv) :
    Calls Try.prog 44 #[c.cv, c.m.v g, .string ⟨#[83, 116, 97, 99, 107, 77, 97, 112]⟩, .func (.func 59) #[] #[.pointer (some ⟨w.heap.size + 1, 0, none⟩), .pointer (some ⟨w.heap.size, 0, none⟩)]] w1 (After c w1 g S1 (N + 2 + (6 + 99452)) s1 b off (rowT mapD) (partE c.C mapsT (someE c.C)) l) := by
  have hblt := hT.lt
  have hb1 : ¬ S1 b := fun h => by
    rcases hs1 b h with h | h
    · exact hb h
    · omega
  have hs1' : ∀ q, S1 q → S q ∨ w.heap.size ≤ q := fun q hq => (hs1 q hq).imp id (fun h => by omega)
  have hz : ∀ q, q < w.heap.size + 1 + 1 → w.heap.size ≤ q → ¬ Zs c S1 b q := fun q hq hq2 h => by
    rcases h with h | ⟨_, h⟩
    · rcases hs1 q h with h | h
      · exact hP.fresh hq2 h
      · omega
    · omega
  have hR1 : (rowT mapD).rep w1 (Zs c S1 b) [u] l := (rowT mapD).next hR (hO1.mono (fun _ _ h => .inl h)) (Zs.mono hs1')
  exact kPart_any (t := mapsT) hdry hP1 (by omega) hb1 (hT.only hO1 hb) hR1 (Uniq.some_ c.C hlen) ((Bd.some_ c.C).short (by omega)) (maps1_steps hlen h5 (hcv ▸ h3) (hz _ (by omega) (by omega)) (hz _ (by omega) (by omega)) hb1 (hT.only hO1 hb) hR1 hbl (by omega))

set_option maxHeartbeats 4000000 in
theorem kMaps_any (hP : PassAt c w g S N s) (hN : N + 99460 ≤ 16000000) (hb : ¬ S b) (u : Value) (l : List MapD) (hT : Tgt c w b off [u]) (hR : (rowT mapD).rep w (Zs c S b) [u] l) (hbl : c.m.isRd = true → u = .slice none 0 0 ∧ l = []) :
    Calls Try.prog 57 #[c.cv, c.m.v g, .pointer (some ⟨b, off, none⟩)] w (After c w g S (N + 99460) s b off (rowT mapD) (mapsE c.C) l) := by
  have hlen := hP.len
  have hR0 := hR
  obtain ⟨A, n, cap, eu, hRS⟩ := hR
  cases eu
  have hnl := hRS.1
  have hc0 : w.cell? ⟨b, off, none⟩ = some (.slice A n cap) := by have := hT.cell 0 _ rfl; rwa [Nat.add_zero] at this
  have hncap : n ≤ cap := hRS.2.1
  have hcm : cap ≤ 9223372036854775807 := by have h2 := hRS.2.2.1; unfold maxLen at h2; omega
  have HP := Lib.hid hP
  have HT := Lib.hid hT
  have HR0 := Lib.hid hR0
  have Hb := Lib.hid hb
  have Hnl := Lib.hid hnl
  have Hbl := Lib.hid hbl
  have hblt := hT.lt
  clear hP hT hR0 hb hnl hRS hbl
  obtain ⟨cv, hcv⟩ : ∃ cv, cv = c.cv := ⟨_, rfl⟩
  obtain ⟨p, hp⟩ : ∃ p, p = c.m.v g := ⟨_, rfl⟩
  rw [← hcv, ← hp]
  have Hp : Hid (p = c.m.v g) := Lib.hid hp
  have Hcv : Hid (cv = c.cv) := Lib.hid hcv
  clear hcv hp
  have hpvn : ((min n 1 : Nat) : Int) = ((min l.length 1 : Nat) : Int) := by rw [Hnl.out]
  have HPV := Lib.hid hpvn
  clear hpvn
  have key : ∀ pv : Int, pv = ((min n 1 : Nat) : Int) → Hid (Calls Try.prog 28 #[p, .pointer (some ⟨w.heap.size + 1 + 1, 0, none⟩), .func (.func 50) #[] #[.pointer (some ⟨w.heap.size + 1 + 1 + 1, 0, none⟩)]]
      ((((w.alloc (.cells #[cv] 79)).alloc (.cells #[.pointer (some ⟨b, off, none⟩)] 119)).alloc (.cells #[.int .i64 pv] 3)).alloc (.cells #[.int .i64 1] 3)) (MapsN c w g S N s b off cv pv)) := fun pv hpv => Lib.hid (mapsN_any HP.out (by omega) Hcv.out Hp.out)
  have HK := Lib.hid key
  clear key
  have hways : n = 0 ∨ n = 1 ∨ 1 < (n : Int) := by omega
  have hw0 : n = 0 → (0 : Int) = ((min n 1 : Nat) : Int) := fun h => by rw [h]; rfl
  have hw1 : n ≠ 0 → (1 : Int) = ((min n 1 : Nat) : Int) := fun h => by rw [show min n 1 = 1 by omega]; rfl
  have HW0 := Lib.hid hw0
  have HW1 := Lib.hid hw1
  clear hw0 hw1
  rcases hways with h0 | h0 | h0
  · subst h0
    have HN := Lib.hid (HK.out 0 (HW0.out rfl)).out
    have HPV0 : Hid ((0 : Int) = ((min l.length 1 : Nat) : Int)) := Lib.hid ((HW0.out rfl).trans HPV.out)
    clear HW0 HW1
    go_enter Try.func57, Try.ntmps57
    go_wp2_with (go_at_call 42; refine (kUpTo_any _ _).mono ?_; rintro e1 wu ⟨rfl, rfl⟩)
    refine HN.out.mono ?_
    rintro e2 w1 ⟨rfl, S1, s1, x1, hP1, hs1x, hO1, h3, h5, h6, hS1⟩
    have n1 : w1.cell? ⟨w.heap.size + 1 + 1, 0, none⟩ = some (.int .i64 x1) := h6
    have H3 := Lib.hid h3
    have H5 := Lib.hid h5
    have HP1 := Lib.hid hP1
    have Hs1x := Lib.hid hs1x
    have Hs1 : Hid (∀ q, S1 q → S q ∨ w.heap.size ≤ q) := Lib.hid (fun q hq => (hs1x q hq).imp id (fun h => by omega))
    have HO1 := Lib.hid hO1
    have HS1 := Lib.hid hS1
    clear h3 h5 h6 hP1 hs1x hO1 hS1 HN hc0
    by_cases hx : x1 = 0
    · subst hx
      go_wp2
      go_end0
      refine ⟨rfl, S1, s1, [.slice A 0 cap], l, Done.own (HP1.out.more (by omega)) Hs1.out HO1.out b off 1 Hb.out HT.out.lt, HT.out.only HO1.out Hb.out, rows_keep HR0.out Hbl.out HO1.out Hs1.out, ?_⟩
      exact Stp.mapsNo (HPV0.out) HS1.out (fun h => (Hbl.out h).2)
    · have hxq : (x1 == 0) = false := by simpa using hx
      have Hx := Lib.hid hx
      clear hx
      have l3 : w1.cell? ⟨w.heap.size, 0, none⟩ = some cv := H3.out.cell 0
      have C4 := mapsP_any (l := l) (HP.out.dry_stp (kind_ne (by omega)) HS1.out) HP1.out (by omega) hlen H3.out H5.out HP.out Hs1x.out HO1.out Hb.out HT.out HR0.out Hbl.out Hcv.out
      rw [← Hp.out, ← Hcv.out] at C4
      have HC4 := Lib.hid C4
      clear C4
      go_wp2_with fail
      refine HC4.out.mono ?_
      rintro e4 w4 ⟨rfl, S4, s4, cs4, l4, hD4, hT4, hR4, hS4⟩
      have HD4 := Lib.hid hD4
      have HT4 := Lib.hid hT4
      have HR4 := Lib.hid hR4
      have HS4 := Lib.hid hS4
      clear hD4 hT4 hR4 hS4 HC4
      go_wp2
      go_end0
      refine ⟨rfl, S4, s4, cs4, l4, ⟨HD4.out.pass.more (by omega), fun q hq => ?_, (HO1.out.mono (fun _ _ h => .inl h)).trans' HD4.out.only (Zs.mono Hs1.out), fun o ho => ?_⟩, HT4.out, (rowT mapD).next HR4.out (Only.refl _ _) (fun q hq hz => ?_), ?_⟩
      · rcases HD4.out.sub q hq with h | h
        · exact Hs1.out q h
        · exact .inr (Nat.le_trans HO1.out.size h)
      · rw [HD4.out.rest o ho]
        exact HO1.out.cell (p := ⟨b, o, none⟩) HT.out.lt Hb.out
      · rcases hz with hz | ⟨h1, h2⟩
        · exact .inl hz
        · exact .inr ⟨h1, Nat.lt_of_lt_of_le h2 HO1.out.size⟩
      · exact Stp.mapsYes (HPV0.out) HS1.out Hx.out HS4.out
  · subst h0
    have HN := Lib.hid (HK.out 1 (HW1.out (by omega))).out
    have HPV0 : Hid ((1 : Int) = ((min l.length 1 : Nat) : Int)) := Lib.hid ((HW1.out (by omega)).trans HPV.out)
    clear HW0 HW1
    go_enter Try.func57, Try.ntmps57
    go_wp2_with (go_at_call 42; refine (kUpTo_any _ _).mono ?_; rintro e1 wu ⟨rfl, rfl⟩)
    refine HN.out.mono ?_
    rintro e2 w1 ⟨rfl, S1, s1, x1, hP1, hs1x, hO1, h3, h5, h6, hS1⟩
    have n1 : w1.cell? ⟨w.heap.size + 1 + 1, 0, none⟩ = some (.int .i64 x1) := h6
    have H3 := Lib.hid h3
    have H5 := Lib.hid h5
    have HP1 := Lib.hid hP1
    have Hs1x := Lib.hid hs1x
    have Hs1 : Hid (∀ q, S1 q → S q ∨ w.heap.size ≤ q) := Lib.hid (fun q hq => (hs1x q hq).imp id (fun h => by omega))
    have HO1 := Lib.hid hO1
    have HS1 := Lib.hid hS1
    clear h3 h5 h6 hP1 hs1x hO1 hS1 HN hc0
    by_cases hx : x1 = 0
    · subst hx
      go_wp2
      go_end0
      refine ⟨rfl, S1, s1, [.slice A 1 cap], l, Done.own (HP1.out.more (by omega)) Hs1.out HO1.out b off 1 Hb.out HT.out.lt, HT.out.only HO1.out Hb.out, rows_keep HR0.out Hbl.out HO1.out Hs1.out, ?_⟩
      exact Stp.mapsNo (HPV0.out) HS1.out (fun h => (Hbl.out h).2)
    · have hxq : (x1 == 0) = false := by simpa using hx
      have Hx := Lib.hid hx
      clear hx
      have l3 : w1.cell? ⟨w.heap.size, 0, none⟩ = some cv := H3.out.cell 0
      have C4 := mapsP_any (l := l) (HP.out.dry_stp (kind_ne (by omega)) HS1.out) HP1.out (by omega) hlen H3.out H5.out HP.out Hs1x.out HO1.out Hb.out HT.out HR0.out Hbl.out Hcv.out
      rw [← Hp.out, ← Hcv.out] at C4
      have HC4 := Lib.hid C4
      clear C4
      go_wp2_with fail
      refine HC4.out.mono ?_
      rintro e4 w4 ⟨rfl, S4, s4, cs4, l4, hD4, hT4, hR4, hS4⟩
      have HD4 := Lib.hid hD4
      have HT4 := Lib.hid hT4
      have HR4 := Lib.hid hR4
      have HS4 := Lib.hid hS4
      clear hD4 hT4 hR4 hS4 HC4
      go_wp2
      go_end0
      refine ⟨rfl, S4, s4, cs4, l4, ⟨HD4.out.pass.more (by omega), fun q hq => ?_, (HO1.out.mono (fun _ _ h => .inl h)).trans' HD4.out.only (Zs.mono Hs1.out), fun o ho => ?_⟩, HT4.out, (rowT mapD).next HR4.out (Only.refl _ _) (fun q hq hz => ?_), ?_⟩
      · rcases HD4.out.sub q hq with h | h
        · exact Hs1.out q h
        · exact .inr (Nat.le_trans HO1.out.size h)
      · rw [HD4.out.rest o ho]
        exact HO1.out.cell (p := ⟨b, o, none⟩) HT.out.lt Hb.out
      · rcases hz with hz | ⟨h1, h2⟩
        · exact .inl hz
        · exact .inr ⟨h1, Nat.lt_of_lt_of_le h2 HO1.out.size⟩
      · exact Stp.mapsYes (HPV0.out) HS1.out Hx.out HS4.out
  · have HN := Lib.hid (HK.out 1 (HW1.out (by omega))).out
    have HPV0 : Hid ((1 : Int) = ((min l.length 1 : Nat) : Int)) := Lib.hid ((HW1.out (by omega)).trans HPV.out)
    clear HW0 HW1
    go_enter Try.func57, Try.ntmps57
    go_wp2_with (go_at_call 42; refine (kUpTo_any _ _).mono ?_; rintro e1 wu ⟨rfl, rfl⟩)
    refine HN.out.mono ?_
    rintro e2 w1 ⟨rfl, S1, s1, x1, hP1, hs1x, hO1, h3, h5, h6, hS1⟩
    have n1 : w1.cell? ⟨w.heap.size + 1 + 1, 0, none⟩ = some (.int .i64 x1) := h6
    have H3 := Lib.hid h3
    have H5 := Lib.hid h5
    have HP1 := Lib.hid hP1
    have Hs1x := Lib.hid hs1x
    have Hs1 : Hid (∀ q, S1 q → S q ∨ w.heap.size ≤ q) := Lib.hid (fun q hq => (hs1x q hq).imp id (fun h => by omega))
    have HO1 := Lib.hid hO1
    have HS1 := Lib.hid hS1
    clear h3 h5 h6 hP1 hs1x hO1 hS1 HN hc0
    by_cases hx : x1 = 0
    · subst hx
      go_wp2
      go_end0
      refine ⟨rfl, S1, s1, [.slice A n cap], l, Done.own (HP1.out.more (by omega)) Hs1.out HO1.out b off 1 Hb.out HT.out.lt, HT.out.only HO1.out Hb.out, rows_keep HR0.out Hbl.out HO1.out Hs1.out, ?_⟩
      exact Stp.mapsNo (HPV0.out) HS1.out (fun h => (Hbl.out h).2)
    · have hxq : (x1 == 0) = false := by simpa using hx
      have Hx := Lib.hid hx
      clear hx
      have l3 : w1.cell? ⟨w.heap.size, 0, none⟩ = some cv := H3.out.cell 0
      have C4 := mapsP_any (l := l) (HP.out.dry_stp (kind_ne (by omega)) HS1.out) HP1.out (by omega) hlen H3.out H5.out HP.out Hs1x.out HO1.out Hb.out HT.out HR0.out Hbl.out Hcv.out
      rw [← Hp.out, ← Hcv.out] at C4
      have HC4 := Lib.hid C4
      clear C4
      go_wp2_with fail
      refine HC4.out.mono ?_
      rintro e4 w4 ⟨rfl, S4, s4, cs4, l4, hD4, hT4, hR4, hS4⟩
      have HD4 := Lib.hid hD4
      have HT4 := Lib.hid hT4
      have HR4 := Lib.hid hR4
      have HS4 := Lib.hid hS4
      clear hD4 hT4 hR4 hS4 HC4
      go_wp2
      go_end0
      refine ⟨rfl, S4, s4, cs4, l4, ⟨HD4.out.pass.more (by omega), fun q hq => ?_, (HO1.out.mono (fun _ _ h => .inl h)).trans' HD4.out.only (Zs.mono Hs1.out), fun o ho => ?_⟩, HT4.out, (rowT mapD).next HR4.out (Only.refl _ _) (fun q hq hz => ?_), ?_⟩
      · rcases HD4.out.sub q hq with h | h
        · exact Hs1.out q h
        · exact .inr (Nat.le_trans HO1.out.size h)
      · rw [HD4.out.rest o ho]
        exact HO1.out.cell (p := ⟨b, o, none⟩) HT.out.lt Hb.out
      · rcases hz with hz | ⟨h1, h2⟩
        · exact .inl hz
        · exact .inr ⟨h1, Nat.lt_of_lt_of_le h2 HO1.out.size⟩
      · exact Stp.mapsYes (HPV0.out) HS1.out Hx.out HS4.out
end

end Go.Proofs.Ytendpbklcgiafaa
