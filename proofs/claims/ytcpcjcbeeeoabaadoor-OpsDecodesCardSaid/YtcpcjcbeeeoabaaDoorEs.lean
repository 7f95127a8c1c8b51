/- What is decoded is encoded as it was, and the other way round: plain lists. -/
import Derived.Test.YtcpcjcbeeeoabaaDoorEr
import Derived.Test.YtcpcjcbeeeoabaaDoorEl
namespace Go.Proofs.YtcpcjcbeeeoabaaDoor
set_option maxRecDepth 100000
open Go.RowKit

theorem worth_mod (s : Nat) (b : Bool) (v : Nat) (h : s ≤ 2) : worthF s b (v % 2 ^ (8 * s)) = worthF s b v := by
  unfold worthF sgn
  rw [Nat.mod_mod]
theorem worth_uw (s : Nat) (b : Bool) (v : Nat) (h : s ≤ 2) : worthF s b (uw (worthF s b v)) = worthF s b v := by
  rcases (by omega : s = 0 ∨ s = 1 ∨ s = 2) with rfl | rfl | rfl
  · simp [worthF]
  · cases b
    · simp only [worthF, uw]; simp; omega
    · simp only [worthF, uw, sgn]; simp; split <;> split <;> omega
  · cases b
    · simp only [worthF, uw]; simp; omega
    · simp only [worthF, uw, sgn]; simp; split <;> split <;> omega
theorem fits_worth (s : Nat) (b : Bool) (v : Nat) (h : s ≤ 2) : fitsF s b (worthF s b v) = true := by
  unfold fitsF
  exact decide_eq_true (worth_uw s b v h)
/-- A part's bytes, read and put again. -/
theorem put_get (s : Nat) (b : Bool) (bs : List UInt8) (hs : PartOk s b) (hl : bs.length = s) : putL (uw (worthF s b (getV bs))) s = bs := by
  have h2 := hs.1
  rcases (by omega : s = 0 ∨ s = 1 ∨ s = 2) with rfl | rfl | rfl
  · rw [List.eq_nil_of_length_eq_zero hl]
    rfl
  · match bs, hl with
    | [x], _ =>
      have hx := x.toNat_lt
      have e : uw (worthF 1 b (getV [x])) % 256 = x.toNat := by
        cases b
        · simp only [worthF, uw, getV]; simp; omega
        · simp only [worthF, uw, sgn, getV]; simp; split <;> omega
      show [byteOf _ 0] = [x]
      congr 1
      apply UInt8.toNat_inj.1
      have h := byteOf_int (uw (worthF 1 b (getV [x]))) 0
      simp at h
      omega
  · match bs, hl with
    | [x, y], _ =>
      have hx := x.toNat_lt
      have hy := y.toNat_lt
      have e : uw (worthF 2 b (getV [x, y])) % 65536 = x.toNat * 256 + y.toNat := by
        cases b
        · simp only [worthF, uw, getV]; simp; omega
        · simp only [worthF, uw, sgn, getV]; simp; split <;> omega
      show [byteOf _ 1, byteOf _ 0] = [x, y]
      have h0 := byteOf_int (uw (worthF 2 b (getV [x, y]))) 0
      have h1 := byteOf_int (uw (worthF 2 b (getV [x, y]))) 1
      simp at h0 h1
      congr 1
      · apply UInt8.toNat_inj.1
        omega
      · congr 1
        apply UInt8.toNat_inj.1
        omega

/-- What was read may be, and has these bytes. -/
theorem read_back {xs : List UInt8} {k : Nat} (hk : k < xs.length) (he : readE xs k = 0) : mayF (readR xs k) = true ∧ codeB (readR xs k) = (xs.drop k).take (lenN (opN xs k)) := by
  have hr := read_len hk he
  have hf9 := formN_le (opN xs k)
  have hpa := partOk_a _ hf9
  have hpb := partOk_b _ hf9
  have hop : (readR xs k).op = opN xs k := rfl
  have ha : (readR xs k).a = aN (formN (opN xs k)) xs k := rfl
  have hb : (readR xs k).b = bW (formN (opN xs k)) xs k := rfl
  have hpl : (readR xs k).pl = (k : Int) := rfl
  have hln : lenN (opN xs k) = lenF (formN (opN xs k)) := rfl
  have he' : readE' (formN (opN xs k)) xs k = 0 := he
  have h0 : formN (opN xs k) ≠ 0 := by
    intro h
    rw [h] at he'
    cases he'
  have hlp := lenF_pos _ hf9 h0
  unfold mayF mayF' codeB codeB' aP
  rw [hop, ha, hb, hpl, hln, hlp]
  rw [hln, hlp] at hr
  have hx : xs[k]? = some (UInt8.ofNat (opN xs k)) := by
    unfold opN
    rw [List.getElem?_eq_getElem hk]
    simp
  generalize opN xs k = o at *
  generalize formN o = f at *
  have haw : aW f xs k = worthF (shapeF f).1 (shapeF f).2.1 (getV ((xs.drop (k + 1)).take (shapeF f).1)) := rfl
  have hbw : bW f xs k = worthF (shapeF f).2.2.1 (shapeF f).2.2.2 (getV ((xs.drop (k + 1 + (shapeF f).1)).take (shapeF f).2.2.1)) := rfl
  have hfa : fitsF (shapeF f).1 (shapeF f).2.1 (aW f xs k) = true := by rw [haw]; exact fits_worth _ _ _ hpa.1
  have hfb : fitsF (shapeF f).2.2.1 (shapeF f).2.2.2 (bW f xs k) = true := by rw [hbw]; exact fits_worth _ _ _ hpb.1
  have hpta : putL (uw (aW f xs k)) (shapeF f).1 = (xs.drop (k + 1)).take (shapeF f).1 := by rw [haw]; exact put_get _ _ _ hpa (by simp; omega)
  have hptb : putL (uw (bW f xs k)) (shapeF f).2.2.1 = (xs.drop (k + 1 + (shapeF f).1)).take (shapeF f).2.2.1 := by rw [hbw]; exact put_get _ _ _ hpb (by simp; omega)
  refine ⟨?_, ?_⟩
  · rw [if_neg h0]
    by_cases h7 : f = 7
    · rw [if_pos h7]
      exact hfb
    · rw [if_neg h7]
      have han : aN f xs k = aW f xs k := by unfold aN; rw [if_neg h7, Int.add_zero]
      rw [han]
      by_cases h9 : f = 9
      · rw [if_pos h9, hfb, Bool.and_true]
        unfold readE' at he'
        rw [if_neg h0, if_neg (by omega)] at he'
        by_cases hk2 : aW f xs k = 8 ∨ aW f xs k = 10
        · exact decide_eq_true hk2
        · rw [if_pos ⟨h9, hk2⟩] at he'
          cases he'
      · rw [if_neg h9, hfa, hfb]
        rfl
  · have han : (if f = 7 then aN f xs k - (k : Int) else aN f xs k) = aW f xs k := by
      unfold aN
      split <;> omega
    rw [han, hpta, hptb]
    have hd : xs.drop k = UInt8.ofNat o :: xs.drop (k + 1) := by
      obtain ⟨h1, h2⟩ := List.getElem?_eq_some_iff.1 hx
      rw [List.drop_eq_getElem_cons h1, h2]
    rw [hd, show 1 + (shapeF f).1 + (shapeF f).2.2.1 = ((shapeF f).1 + (shapeF f).2.2.1) + 1 by omega, List.take_succ_cons, List.take_add, List.drop_drop]

theorem cuts_code {xs : List UInt8} {k : Nat} {l l' : List RawD} {e : Int} (h : Cuts xs k l e l') : e = 0 → k ≤ xs.length → codesB l = xs.take k → (∀ t, measF 0 (l ++ t) = measF k t) → codesB l' = xs ∧ measF 0 l' = some xs.length := by
  induction h with
  | @stop k l hk =>
    intro _ hk2 hc hm
    have : k = xs.length := by omega
    subst this
    refine ⟨by rw [hc, List.take_length], ?_⟩
    have := hm []
    rw [List.append_nil] at this
    rw [this]
    rfl
  | bad _ h => exact fun h0 => absurd h0 h
  | @go k l l' e hk he hc ih =>
    intro h0 hk2 hcl hm
    have hr := read_len hk he
    obtain ⟨hmay, hco⟩ := read_back hk he
    refine ih h0 hr.2 ?_ (fun t => ?_)
    · unfold codesB at hcl ⊢
      rw [List.flatMap_append, hcl]
      simp only [List.flatMap_cons, List.flatMap_nil, List.append_nil]
      rw [hco, List.take_add]
    · rw [List.append_assoc, hm]
      show measF k (readR xs k :: t) = _
      conv => lhs; unfold measF
      rw [if_pos ⟨rfl, hmay⟩]
      rfl
/-- What is decoded is encoded as it was. -/
theorem dec_enc {xs : List UInt8} {l : List RawD} (h : Dec xs 0 l) : Enc l 0 xs := by
  generalize he : (0 : Int) = e at h
  cases h with
  | long _ => cases he
  | bad _ _ h => exact absurd he.symm h
  | range _ _ _ => cases he
  | ok hn hc hm =>
    obtain ⟨h1, h2⟩ := cuts_code hc rfl (by omega) rfl (fun t => rfl)
    have := Enc.ok h2 hm hn
    rwa [h1] at this

/-! ### The other way round -/
theorem worth_fits {s : Nat} {b : Bool} {v : Int} (hs : s ≤ 2) (h : fitsF s b v = true) : worthF s b (getV (putL (uw v) s)) = v := by
  rw [getV_putL, worth_mod _ _ _ hs]
  unfold fitsF at h
  exact of_decide_eq_true h
theorem read_code {bs pre post : List UInt8} {r : RawD} {k m : Nat} (ho : r.op < 256) (hb : bs = pre ++ (codeB r ++ post)) (hk : pre.length = k) (hpl : r.pl = (k : Int)) (hmay : mayF r = true) (h7 : formN r.op = 7 → -32768 ≤ r.a - r.pl ∧ r.a - r.pl ≤ 32767) :
    readE bs k = 0 ∧ readR bs k = r := by
  have h0 := mayF_form hmay
  have hf9 := formN_le r.op
  have hlp := lenF_pos _ hf9 h0
  have hcl := codeB_len r h0
  have hln : lenN r.op = lenF (formN r.op) := rfl
  have hpa := partOk_a _ hf9
  have hpb := partOk_b _ hf9
  have hd : bs.drop k = codeB r ++ post := by rw [hb, ← hk, List.drop_left]
  have hlen : k + lenF (formN r.op) ≤ bs.length := by rw [hb, List.length_append, List.length_append, hcl, hln, hk]; omega
  have hopn : opN bs k = r.op := by
    have h1 : bs[k]? = some (UInt8.ofNat r.op) := by
      have : bs[k]? = (bs.drop k)[0]? := by rw [List.getElem?_drop]; simp
      rw [this, hd]
      rfl
    unfold opN
    rw [h1]
    show (UInt8.ofNat r.op).toNat = _
    rw [UInt8.toNat_ofNat']
    omega
  have hd1 : bs.drop (k + 1) = putL (uw (aP (formN r.op) r)) (shapeF (formN r.op)).1 ++ (putL (uw r.b) (shapeF (formN r.op)).2.2.1 ++ post) := by
    rw [← List.drop_drop, hd]
    unfold codeB codeB'
    simp
  have hta : (bs.drop (k + 1)).take (shapeF (formN r.op)).1 = putL (uw (aP (formN r.op) r)) (shapeF (formN r.op)).1 := by
    rw [hd1, List.take_left' (putL_len _ _)]
  have htb : (bs.drop (k + 1 + (shapeF (formN r.op)).1)).take (shapeF (formN r.op)).2.2.1 = putL (uw r.b) (shapeF (formN r.op)).2.2.1 := by
    rw [← List.drop_drop, hd1, List.drop_left' (putL_len _ _), List.take_left' (putL_len _ _)]
  have haw : aW (formN r.op) bs k = worthF (shapeF (formN r.op)).1 (shapeF (formN r.op)).2.1 (getV (putL (uw (aP (formN r.op) r)) (shapeF (formN r.op)).1)) := by unfold aW; rw [hta]
  have hbw : bW (formN r.op) bs k = worthF (shapeF (formN r.op)).2.2.1 (shapeF (formN r.op)).2.2.2 (getV (putL (uw r.b) (shapeF (formN r.op)).2.2.1)) := by unfold bW; rw [htb]
  have hfit : fitsF (shapeF (formN r.op)).2.2.1 (shapeF (formN r.op)).2.2.2 r.b = true ∧ fitsF (shapeF (formN r.op)).1 (shapeF (formN r.op)).2.1 (aP (formN r.op) r) = true ∧ (formN r.op = 9 → r.a = 8 ∨ r.a = 10) := by
    unfold mayF mayF' at hmay
    rw [if_neg h0] at hmay
    unfold aP
    by_cases h7' : formN r.op = 7
    · rw [if_pos h7'] at hmay
      obtain ⟨a1, a2⟩ := h7 h7'
      refine ⟨hmay, ?_, fun h => by omega⟩
      rw [if_pos h7', h7']
      show fitsF 2 true _ = true
      rw [fits2s]
      exact decide_eq_true ⟨a1, a2⟩
    · rw [if_neg h7'] at hmay ⊢
      by_cases h9 : formN r.op = 9
      · rw [if_pos h9, Bool.and_eq_true] at hmay
        have hk2 := of_decide_eq_true hmay.1
        refine ⟨hmay.2, ?_, fun _ => hk2⟩
        rw [h9]
        show fitsF 1 false _ = true
        rw [fits1u]
        exact decide_eq_true (by omega)
      · rw [if_neg h9, Bool.and_eq_true] at hmay
        exact ⟨hmay.2, hmay.1, fun h => absurd h h9⟩
  rw [worth_fits hpa.1 hfit.2.1] at haw
  rw [worth_fits hpb.1 hfit.1] at hbw
  refine ⟨?_, ?_⟩
  · unfold readE
    rw [hopn]
    unfold readE'
    rw [if_neg h0, if_neg (by omega), if_neg]
    rintro ⟨h9, hn⟩
    rw [haw] at hn
    unfold aP at hn
    rw [if_neg (by omega)] at hn
    exact hn (hfit.2.2 h9)
  · have han : aN (formN r.op) bs k = r.a := by
      unfold aN
      rw [haw]
      unfold aP
      split
      · omega
      · omega
    obtain ⟨pl, op, a, b⟩ := r
    show (⟨(k : Int), opN bs k, aN (formN (opN bs k)) bs k, bW (formN (opN bs k)) bs k⟩ : RawD) = _
    rw [hopn, han, hbw, ← hpl]

theorem code_cuts {bs : List UInt8} {L : List RawD} {m : Nat} (hm4 : m ≤ 4096) (hop : ∀ r ∈ L, r.op < 256) (ha : ∀ r ∈ L, formN r.op = 7 → 0 ≤ r.a ∧ r.a < (m : Int)) (hpl : ∀ r ∈ L, 0 ≤ r.pl ∧ r.pl < (m : Int)) :
    ∀ (t d : List RawD), d ++ t = L → bs = codesB d ++ codesB t → measF (codesB d).length t = some m → Cuts bs (codesB d).length d 0 L
  | [], d, hL, hb, hm => by
    rw [List.append_nil] at hL
    subst hL
    exact .stop (by rw [hb]; simp [codesB])
  | r :: t, d, hL, hb, hm => by
    have hmem : r ∈ L := by rw [← hL]; simp
    unfold measF at hm
    split at hm
    · next hc =>
      have h0 := mayF_form hc.2
      have hcl := codeB_len r h0
      have hlp := lenF_pos _ (formN_le r.op) h0
      have hln : lenN r.op = lenF (formN r.op) := rfl
      have hct : codesB (r :: t) = codeB r ++ codesB t := by unfold codesB; rw [List.flatMap_cons]
      have hb2 : bs = codesB d ++ (codeB r ++ codesB t) := by rw [hb, hct]
      obtain ⟨he, hR⟩ := read_code (m := m) (hop r hmem) hb2 rfl hc.1 hc.2 (fun h7 => by have := ha r hmem h7; have := hpl r hmem; omega)
      have hopn : opN bs (codesB d).length = r.op := by
        have : (readR bs (codesB d).length).op = r.op := by rw [hR]
        exact this
      have hcd : (codesB (d ++ [r])).length = (codesB d).length + lenN r.op := by
        unfold codesB
        rw [List.flatMap_append, List.length_append]
        simp [hcl]
      refine .go (by rw [hb2, List.length_append, List.length_append, hcl]; omega) he ?_
      rw [hR, hopn, ← hcd]
      refine code_cuts hm4 hop ha hpl t (d ++ [r]) (by rw [List.append_assoc]; exact hL) ?_ (by rw [hcd]; exact hm)
      rw [hb2]
      unfold codesB
      rw [List.flatMap_append]
      simp
    · cases hm
theorem code_len : ∀ (t : List RawD) (k m : Nat), measF k t = some m → k + (codesB t).length = m
  | [], k, m, h => by simp [measF] at h; simp [codesB, h]
  | r :: t, k, m, h => by
    unfold measF at h
    split at h
    · next hc =>
      have := code_len t _ _ h
      have hcl := codeB_len r (mayF_form hc.2)
      have hct : codesB (r :: t) = codeB r ++ codesB t := by unfold codesB; rw [List.flatMap_cons]
      rw [hct, List.length_append, hcl]
      omega
    · cases h
/-- What is encoded tells it. -/
theorem enc_dec {bs : List UInt8} {l : List RawD} (hop : ∀ r ∈ l, r.op < 256) (h : Enc l 0 bs) : Dec bs 0 l := by
  generalize he : (0 : Int) = e at h
  cases h with
  | form _ => cases he
  | range _ _ => cases he
  | long _ _ _ => cases he
  | @ok m hm hme hm4 =>
    have hin := (meas_inv l 0 m hm).2
    have hc := code_cuts (bs := codesB l) hm4 hop (meet_a hm hme) (fun r hr => by have := hin r hr; omega) l [] rfl (by simp [codesB]) hm
    have hl := code_len l 0 m hm
    exact .ok (by omega) hc hme

end Go.Proofs.YtcpcjcbeeeoabaaDoor
