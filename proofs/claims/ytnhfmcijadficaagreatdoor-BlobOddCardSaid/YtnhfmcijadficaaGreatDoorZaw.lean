/- The walk over blob's Live: the room of all keys. -/
import Derived.Test.YtnhfmcijadficaaGreatDoorZav
import Derived.Test.YtnhfmcijadficaaGreatDoorZau
import Derived.Test.YtnhfmcijadficaaGreatDoorZar
import Derived.Test.YtnhfmcijadficaaGreatDoorZai
import Derived.Shelf.Abstract
namespace Go.Proofs.YtnhfmcijadficaaGreatDoor
set_option maxRecDepth 100000
open Go.RowKit Go.Maps Go.Sort

/-- Keys and blobs that records may have. -/
def FairM (M : Al Sv) : Prop := ∀ q ∈ M, q.1.length ≤ 64 ∧ q.2.n ≤ 4096
theorem svAt_fair {M : Al Sv} (h : FairM M) (k : List UInt8) : (svAt M k).n ≤ 4096 := by
  unfold svAt
  cases hf : afind M k with
  | none => exact Nat.zero_le _
  | some f => exact (h _ (afind_mem hf)).2

/-- A key's room. -/
def keyRoom (k : List UInt8) (n : Nat) : Nat := 32 + k.length + n
def liveL (M : Al Sv) : Nat := (M.map fun q => keyRoom q.1 q.2.n).sum

theorem afind_of_mem {α : Type} {M : Al α} (h : M.Pairwise (fun p q => bytesBefore p.1 q.1 = true)) {q : List UInt8 × α} (hq : q ∈ M) : afind M q.1 = some q.2 := by
  induction M with
  | nil => cases hq
  | cons r M ih =>
    rw [List.pairwise_cons] at h
    unfold afind
    rw [List.find?_cons]
    rcases List.mem_cons.1 hq with rfl | hm
    · simp
    · have hb := before_lt _ _ (h.1 q hm)
      have hne : (r.1 == q.1) = false := by
        rw [beq_eq_false_iff_ne]
        intro he
        rw [he] at hb
        exact absurd hb (List.lt_irrefl _)
      rw [hne]
      exact ih h.2 hm
theorem live_keys {M : Al Sv} (h : M.Pairwise (fun p q => bytesBefore p.1 q.1 = true)) : ((M.map (·.1)).map fun k => keyRoom k (svAt M k).n).sum = liveL M := by
  unfold liveL
  rw [List.map_map]
  congr 1
  apply List.map_congr_left
  intro q hq
  show keyRoom q.1 (svAt M q.1).n = _
  rw [svAt_v (afind_of_mem h hq)]
theorem sum_perm {l r : List Nat} (h : l.Perm r) : l.sum = r.sum := h.sum_nat
theorem sum_le_mul (f : List UInt8 → Nat) (m : Nat) : ∀ l : List (List UInt8), (∀ k ∈ l, f k ≤ m) → (l.map f).sum ≤ l.length * m
  | [], _ => by simp
  | k :: l, h => by
    have h1 := sum_le_mul f m l (fun q hq => h q (List.mem_cons_of_mem _ hq))
    have h2 := h k List.mem_cons_self
    rw [List.map_cons, List.sum_cons, List.length_cons, Nat.add_mul]
    omega

set_option maxHeartbeats 400000 in
theorem live_any (s mb p c e : Nat) (M : Al Sv) (h : HeadV) (d : Bool) (w : World) (hS : StoreAt w s mb p c e M h d) (hM : M.length ≤ 65536) (hF : FairM M) :
    Calls Tryz.prog 29 #[.pointer (some ⟨s, 0, none⟩)] w fun e1 w' => e1 = .returned (.int .i64 (liveL M : Int)) ∧ Below w.heap.size w w' := by
  have s1 : w.cell? ⟨s, 1, none⟩ = some (.map (some mb)) := hS.blk.cell 1
  have hbl : mb < w.heap.size := hS.map.lt
  have hsrt := hS.map.sorted
  have Hsrt := Lib.hid hsrt
  have Hown : Hid (w.ownsMap Tryz.prog 9 standElem mb M.length (smD M)) := Lib.hid hS.map
  have Hbl := Lib.hid hS.bl
  have hks := strKeys_sm M
  have Hlv := Lib.hid (live_keys hsrt)
  have Hat : Hid (∀ (x : List UInt8) (f : Sv) (yd : DataW Unit) (yp : List MemPlace), standElem f.v = some (yd, yp) → (∀ zd, (smD M).atKey (.string x) zd = yd) → Maps.has (smD M) (.string x) = true → x.length ≤ 64 ∧ f.v = (svAt M x).v) := Lib.hid (fun x f yd yp hv hat hhas => by
    rw [has_sm] at hhas
    cases hf : afind M x with
    | none => rw [hf] at hhas; cases hhas
    | some f2 =>
      have h1 := hat Sv.zero.d
      rw [svAt_d] at h1
      rw [← h1] at hv
      exact ⟨(hF _ (afind_mem hf)).1, standElem_inv hv⟩)
  have Hfair := Lib.hid (svAt_fair hF)
  have hkl : ∀ k ∈ M.map (·.1), keyRoom k (svAt M k).n ≤ 8192 := fun k hk => by
    obtain ⟨q, hq, rfl⟩ := List.mem_map.1 hk
    have h1 := (hF q hq).1
    have h2 := Hfair.out q.1
    unfold keyRoom
    omega
  have Hkl := Lib.hid hkl
  obtain ⟨D0, hD0⟩ : ∃ D0, D0 = smD M := ⟨_, rfl⟩
  rw [← hD0] at Hown hks Hat
  have Hks := Lib.hid hks
  have hsz : Maps.size D0 ≤ 65536 := by rw [hD0]; unfold smD; rw [Maps.size_eq, List.length_map]; exact hM
  have Hhk : Hid (∀ x, Maps.has D0 (.string x) = true → x ∈ M.map (·.1)) := Lib.hid (fun x hx => by
    rw [hD0, has_sm] at hx
    obtain ⟨f, hf⟩ := Option.isSome_iff_exists.1 hx
    exact List.mem_map.2 ⟨_, afind_mem hf, rfl⟩)
  clear hS hks hD0 hF hsrt hkl
  go_enter Tryz.func29, Tryz.ntmps29
  go_wp2_with (at_range; refine wpList_range_own _ rfl _ 102 rfl 9 134 Tryz.standKeyed Tryz.underlying102 _ mb M.length _ rfl Hown.out ?_; intro w0 hrg0 hg0 hs0)
  go_frame
  have Hg0 := Lib.hid hg0
  have Hl0 : Hid (w.heap.size < w0.heap.size) := Lib.hid (by omega)
  clear hg0 hs0
  go_loopw [3] (fun v wr => ∃ (left : Lit → Bool) (cnt : Nat) (ss : List (List UInt8)) (q : Nat), v = .int .i64 (q : Int) ∧ Hid (q = (ss.map fun k => keyRoom k (svAt M k).n).sum) ∧ wr.ranges Tryz.prog 9 standElem mb w.heap.size M.length D0 left cnt ∧ ss.length + cnt ≤ Maps.size D0 ∧
      Collected D0 left ss ∧ Hid (Below w.heap.size w wr) ∧ Hid (w.heap.size < wr.heap.size))
    (fun _ wr => wr.rangeLeft mb w.heap.size)
  case atStart =>
    exact ⟨_, _, [], 0, rfl, Lib.hid rfl, hrg0, by simp, Collected.start D0, Lib.hid ((Below.refl _ _).grown Hg0.out (Nat.le_refl _) (fun j hj => by cases hj)), Hl0⟩
  case round =>
    obtain ⟨left, cnt, ss, q, rfl, Hq, hrg, hcs, hC, HB, HL2⟩ := hrel
    have hqb : q ≤ 536870912 := by
      have h1 := sum_le_mul (fun k => keyRoom k (svAt M k).n) 8192 ss (fun k hk => Hkl.out k (Hhk.out k ((hC.2 k).1 hk).1))
      have h2 : ss.length * 8192 ≤ 65536 * 8192 := Nat.mul_le_mul_right _ (by omega)
      rw [Hq.out]
      omega
    go_wp2_with (at_next; refine wpList_next_ranges _ rfl _ rfl 9 Tryz.standKeyed standElem encStr Sv.v (fun key kl hk => by obtain ⟨x, hx, _⟩ := Maps.keyOf_str Tryz.underlying9 hk; exact ⟨x, hx⟩) (fun v y hv => by obtain ⟨c, rfl, _⟩ := standElem_some hv; exact ⟨c, rfl⟩) mb w.heap.size M.length _ _ _ rfl hrg ?_ ?_)
    · intro hc0 hl0
      have hperm := hC.perm Hown.out Tryz.standKeyed Tryz.underlying9 hl0
      rw [Hks.out] at hperm
      have hsum := sum_perm (hperm.map fun k => keyRoom k (svAt M k).n)
      rw [Hlv.out, ← Hq.out] at hsum
      have Hsum := Lib.hid hsum
      clear hsum hperm hC hrg
      go_wp2_with fail
      go_ret
      exact ⟨by rw [← Hsum.out]; rfl, HB.out⟩
    · intro x f kl yd yp w2 cnt2 hkey hlk hv hat hrg2 hlt hg2 hs2 hen
      obtain ⟨x', ex, rfl, _⟩ := Maps.keyOf_str Tryz.underlying9 hkey
      obtain rfl : x = x' := encStr_inj ex
      have hO2 : Only (· = w.heap.size) wr w2 := Only.of_grown hg2 (fun k e _ => by cases e; rfl)
      have HB2 := Lib.hid (HB.out.trans (hO2.below (B := w.heap.size) HB.out.size (fun k h1 h2 => by omega)))
      have Hl2 : Hid (w.heap.size < w2.heap.size) := Lib.hid (by have := HL2.out; omega)
      have hxx := Hat.out x f yd yp hv hat (has_true_of_atKey hat)
      have Hstep := Lib.hid (hC.step hlk hat)
      rw [hxx.2] at hen
      have hfn := Hfair.out x
      have hblb := Hbl.out.at_ x
      have Hsum : Hid (q + keyRoom x (svAt M x).n = ((ss ++ [x]).map fun k => keyRoom k (svAt M k).n).sum) := Lib.hid (by rw [List.map_append, List.sum_append, ← Hq.out]; simp)
      obtain ⟨sv, hsv⟩ : ∃ sv, sv = svAt M x := ⟨_, rfl⟩
      rw [← hsv] at hen hfn hblb Hsum
      have hx64 := hxx.1
      clear hs2 hg2 hO2 hv hkey ex hat hlk hxx hsv
      obtain ⟨sec, g, n, cap, xs⟩ := sv
      unfold Sv.v at hen
      simp only at hen hfn hblb Hsum
      have hroom : Hid (∀ W, Below w2.heap.size w2 W → Calls Tryz.prog 47 #[.slice (some ⟨W.heap.size, 0, none⟩) 1 1] (W.alloc (.cells #[.bool false, encStr x, .slice (adr g) n cap] 37)) fun e w' => e = .returned (.int .i64 ((keyRoom x n : Nat) : Int)) ∧ Below (W.alloc (.cells #[.bool false, encStr x, .slice (adr g) n cap] 37)).heap.size (W.alloc (.cells #[.bool false, encStr x, .slice (adr g) n cap] 37)) w') := Lib.hid (fun W hW => by
        have hrow := RowSl.lit (cells := Ch.cells) (k := 3) (fun _ => rfl) W Empty 37 [(⟨false, ⟨x.toArray⟩, adr g, n, cap, xs⟩ : Ch)] 1 [.bool false, encStr x, .slice (adr g) n cap] (by simp [Ch.cells, encStr]) rfl (by decide) (fun h => h)
        have hb2 := (HB2.out.trans (hW.mono HB2.out.size))
        have hbb : ByteSl (W.alloc (.cells #[.bool false, encStr x, .slice (adr g) n cap] 37)) Empty (adr g) n cap xs := (hblb.1.only (Only.of_below (S := Empty) (hb2.alloc hb2.size _)) (fun _ _ h => h.elim)).mono (fun _ _ h => h.elim)
        have hch : Chs (W.alloc (.cells #[.bool false, encStr x, .slice (adr g) n cap] 37)) Empty (some ⟨W.heap.size, 0, none⟩) 1 1 [(⟨false, ⟨x.toArray⟩, adr g, n, cap, xs⟩ : Ch)] :=
          ⟨hrow.1, hrow.2.1, hrow.2.2.1, hrow.2.2.2, fun f hf => by
            simp only [List.mem_cons, List.not_mem_nil, or_false] at hf
            subst hf
            exact ⟨hbb, hblb.2⟩⟩
        have hr := roomOf_any _ 1 1 _ _ hch (fun f hf => by
          simp only [List.mem_cons, List.not_mem_nil, or_false] at hf
          subst hf
          refine ⟨?_, ?_⟩
          · show x.toArray.size ≤ 64
            simpa using hx64
          · show (if false = true then 0 else n) ≤ 4096
            simpa using hfn) (by decide)
        have hrl : roomL [(⟨false, ⟨x.toArray⟩, adr g, n, cap, xs⟩ : Ch)] = keyRoom x n := by
          show 16 + ((x.toArray.size + n + 16) + 0) = 32 + x.length + n
          simp
          omega
        rw [hrl] at hr
        exact hr)
      have hkr : keyRoom x n ≤ 8192 := by unfold keyRoom; omega
      obtain ⟨kr, hkre⟩ : ∃ kr, kr = keyRoom x n := ⟨_, rfl⟩
      rw [← hkre] at hroom hkr Hsum
      clear hkre hblb hfn
      have hsz2 : (w2.alloc (.cells #[.int .i64 sec, .slice (adr g) n cap] 134)).heap.size = w2.heap.size + 1 := by simp
      have hr := hroom.out (w2.alloc (.cells #[.int .i64 sec, .slice (adr g) n cap] 134)) ((Below.refl _ _).alloc (Nat.le_refl _) _)
      rw [hsz2] at hr
      have Hr := Lib.hid hr
      clear hr hsz2 hroom
      go_wp2_with fail
      refine Hr.out.mono ?_
      rintro e3 w3 ⟨rfl, hb3⟩
      have hb3' := ((((Below.refl w2.heap.size w2).alloc (Nat.le_refl _) (.cells #[.int .i64 sec, .slice (adr g) n cap] 134)).alloc (by simp) (.cells #[.bool false, encStr x, .slice (adr g) n cap] 37))).trans (hb3.mono (by simp; omega))
      have HB3 := Lib.hid (HB2.out.trans (hb3'.mono HB2.out.size))
      have hg3 : w2.grownBy w3 none := ⟨hb3'.os, hb3'.tape, hb3'.output, hb3'.size, fun i hi _ => hb3'.block i hi⟩
      have hrg3 := hrg2.kept hg3 (by simp) (by simp)
      have Hl3 : Hid (w.heap.size < w3.heap.size) := Lib.hid (by have h1 := Hl2.out; have h2 := hb3'.size; omega)
      clear hb3 hb3' hg3
      go_wp2_with fail
      go_roundw
      case rel => exact ⟨_, cnt2, ss ++ [x], q + kr, by congr 1, Hsum, hrg3, by rw [List.length_append]; simp; omega, Hstep.out, HB3, Hl3⟩
      case measure =>
        rw [hrg3.left_eq, hrg.left_eq]
        exact hlt

end Go.Proofs.YtnhfmcijadficaaGreatDoor

/- The walks over blob's behindHeader, limit, Room, look, Sectors. -/
namespace Go.Proofs.YtnhfmcijadficaaGreatDoor
set_option maxRecDepth 100000
open Go.RowKit

section
variable {p c e Z L : Nat} {ss : List (Nat × List UInt8)} {w : World}
theorem FS.geo (hs : FS w p c e Z L ss) : Calls Tryz.prog 39 #[.pointer (some ⟨p, 0, none⟩)] w fun e1 w' => e1 = .returned (.agg #[.int .i64 (ss.length : Int), .int .i64 (Z : Int), .int .i64 (L : Int)]) ∧ Below w.heap.size w w' := by
  obtain ⟨fl, hf, hu, hfu, hS, rfl, rfl, _⟩ := hs
  rw [← hS]
  exact geometry_any p c e fl w hf
end
theorem geo_field2 (a b c : Int) (W : World) : (Instr.field 29 (.agg #[.int .i64 a, .int .i64 b, .int .i64 c]) 2).run Tryz.prog W = .ok (.int .i64 c) W := by kernel_rfl

set_option maxHeartbeats 1000000 in
theorem behind_any (p c e Z L : Nat) (ss : List (Nat × List UInt8)) (w : World) (hs : FS w p c e Z L ss) :
    Calls Tryz.prog 45 #[.pointer (some ⟨p, 0, none⟩)] w fun e1 w' => e1 = .returned (.int .i64 ((Z - 12 : Nat) : Int)) ∧ Below w.heap.size w w' := by
  have hz := hs.bz
  have hg := geo_field1 (ss.length : Int) (Z : Int) (L : Int)
  have hv : IntKind.i64.wrap ((Z : Int) - 12) = ((Z - 12 : Nat) : Int) := by rw [IntKind.wrap_i64]; omega
  have HS := Lib.hid hs
  obtain ⟨V, hV⟩ : ∃ V, V = Z - 12 := ⟨_, rfl⟩
  rw [← hV] at hv ⊢
  clear hs hV hz
  go_enter Tryz.func45, Tryz.ntmps45
  go_wp2_with fail
  refine HS.out.geo.mono ?_
  rintro e1 w1 ⟨rfl, hb1⟩
  go_wp2
  go_ret
  exact ⟨rfl, hb1⟩

/-- Room, of a geometry. -/
def roomMax (S Z : Nat) : Nat := (S - 2) * (Z - 12) / 4

set_option maxHeartbeats 1000000 in
theorem room_any (s mb p c e Z L : Nat) (ss : List (Nat × List UInt8)) (M : Al Sv) (h : HeadV) (d : Bool) (w : World) (hS : StoreAt w s mb p c e M h d) (hs : FS w p c e Z L ss) :
    Calls Tryz.prog 30 #[.pointer (some ⟨s, 0, none⟩)] w fun e1 w' => e1 = .returned (.int .i64 (roomMax ss.length Z : Int)) ∧ Below w.heap.size w w' := by
  have hz := hs.bz
  have s0 : w.cell? ⟨s, 0, none⟩ = some (.pointer (some ⟨p, 0, none⟩)) := hS.blk.cell 0
  have hsl := hS.blk.lt
  have hg := geo_field0 (ss.length : Int) (Z : Int) (L : Int)
  have HS := Lib.hid hs
  have HK := Lib.hid hS.blk
  obtain ⟨n, hn⟩ : ∃ n, n = ss.length := ⟨_, rfl⟩
  rw [← hn] at hg hz ⊢
  have Hn := Lib.hid hn
  have hmx : max (0 : Int) ((n : Int) - 2) = ((n - 2 : Nat) : Int) := by omega
  have hb : (n - 2) * (Z - 12) ≤ 64 * 65536 := Nat.mul_le_mul (by omega) (by omega)
  have Hbeh := Lib.hid (fun W hW => behind_any p c e Z L ss W (hs.below hW))
  obtain ⟨a, ha⟩ : ∃ a, a = n - 2 := ⟨_, rfl⟩
  obtain ⟨b, hbz⟩ : ∃ b, b = Z - 12 := ⟨_, rfl⟩
  have hroom : roomMax n Z = a * b / 4 := by unfold roomMax; rw [ha, hbz]
  rw [← ha] at hmx
  rw [← ha, ← hbz] at hb
  rw [← hbz] at Hbeh
  have hw : (a : Int) * (b : Int) = ((a * b : Nat) : Int) := by simp
  rw [hroom]
  obtain ⟨q, hq⟩ : ∃ q, q = a * b := ⟨_, rfl⟩
  rw [← hq] at hw hb ⊢
  have hn1 : 1 ≤ n := hz.1
  have hn2 : n ≤ 64 := hz.2.1
  clear hs hS hn hroom ha hbz hz hq
  go_enter Tryz.func30, Tryz.ntmps30
  go_wp2_with fail
  refine HS.out.geo.mono ?_
  rw [← Hn.out]
  rintro e1 w1 ⟨rfl, hb1⟩
  have Hb1 := Lib.hid hb1
  have s1 : w1.cell? ⟨s, 0, none⟩ = some (.pointer (some ⟨p, 0, none⟩)) := (HK.out.of (hb1.block s HK.out.lt)).cell 0
  clear hb1
  go_wp2_with fail
  refine (Hbeh.out _ Hb1.out).mono ?_
  rintro e1 w2 ⟨rfl, hb2⟩
  have Hb2 := Lib.hid (Hb1.out.trans (hb2.mono Hb1.out.size))
  clear hb2
  go_wp2_with fail
  go_ret
  exact ⟨congrArg (fun v : Int => Ending.returned (Value.int .i64 v)) (by omega), Hb2.out⟩

/-- append of sectors onto a row of the call's own. -/
theorem wpList_append_sc {ops : Array Oper} {rest : List Oper} {q : Oper} {u : Act} {w : World} {S : Nat → Prop} {Q : Exit → Act → World → Prop} (hgd : q.guard = none) (s x : Operand) (hq : q.op = .call { callee := .builtin .append, args := #[s, x], argTypes := #[84, 84] })
    (base : Nat) (B : Option Addr) (m0 c0 : Nat) (zs : List Sc) (hs : u.eval s = .slice B m0 c0) (hown : GotR Sc.cells 3 96 base w B m0 c0 zs) (A : Option Addr) (m c : Nat) (l : List Sc)
    (hx : u.eval x = .slice A m c) (hB : RowSl Sc.cells 3 w S A m c l) (hn : A = none → m = 0 ∧ c = 0) (hm : m0 + m ≤ 16777216) (hbase : base ≤ w.heap.size)
    (h : ∀ A' c' w', GotR Sc.cells 3 96 base w' A' (m0 + m) c' (zs ++ l) → w.grownBy w' (Value.slice B m0 c0).ownBlock → (∀ g, (Value.slice B m0 c0).ownBlock = some g → base ≤ g) → wpList Tryz.prog ops Q rest (u.put q.dst (.slice A' (m0 + m) c')) w') : wpList Tryz.prog ops Q (q :: rest) u w :=
  wpList_append_rows Sc.cells_len (fun f v hv => secs_one [f] v (by simpa using hv)) (by decide) 84 96 _ 24 Tryz.underlying84 Tryz.infoSector (by simp [Value.cells]) (by decide) hgd s x hq base B m0 c0 zs hs hown A m c l hx hB hn hm hbase (fun A' c' w' h1 h2 h3 _ => h A' c' w' h1 h2 h3)

/-- What is known of a sector, of its bytes and its count. -/
def secOf (x : Nat × List UInt8) : Sc := ⟨stS x.2, stQ x.2, (x.1 : Int)⟩
def secsOf (ss : List (Nat × List UInt8)) : List Sc := ss.map secOf

set_option maxHeartbeats 1000000 in
theorem look_any (p c e Z L : Nat) (ss : List (Nat × List UInt8)) (w : World) (hs : FS w p c e Z L ss) (hM : Mark w) :
    Calls Tryz.prog 35 #[.pointer (some ⟨p, 0, none⟩)] w fun e1 w' => (∃ A cap, e1 = .returned (.tuple #[.slice A ss.length cap, .int .i64 0]) ∧ GotR Sc.cells 3 96 w.heap.size w' A ss.length cap (secsOf ss)) ∧ Below w.heap.size w w' := by
  have hz := hs.bz
  have hg := geo_field0 (ss.length : Int) (Z : Int) (L : Int)
  have HS := Lib.hid hs
  have HM := Lib.hid hM
  obtain ⟨n, hn⟩ : ∃ n, n = ss.length := ⟨_, rfl⟩
  rw [← hn] at hg hz ⊢
  have Hn := Lib.hid hn
  clear hs hM hn
  go_enter Tryz.func35, Tryz.ntmps35
  go_wp2_with fail
  refine HS.out.geo.mono ?_
  rw [← Hn.out]
  rintro e1 w1 ⟨rfl, hb1⟩
  have Hb1 := Lib.hid hb1
  clear hb1
  go_wp2_with fail
  go_loopw [2, 10] (fun r v wr => ∃ (i : Nat) (A : Option Addr) (cap : Nat), i ≤ n ∧ v = .int .i64 (i : Int) ∧ r = .slice A i cap ∧ Hid (GotR Sc.cells 3 96 w.heap.size wr A i cap (secsOf (ss.take i))) ∧ Hid (Below w.heap.size w wr)) (fun _ v _ => n - (intOf v).toNat)
  case atStart => exact ⟨0, none, 0, Nat.zero_le _, rfl, rfl, Lib.hid (GotR.nil_ _ _ _ _ _), Hb1⟩
  case round =>
    obtain ⟨i, A, cap, hi, rfl, rfl, HG, HB⟩ := hrel
    by_cases hlt : i < n
    · obtain ⟨m, xs, hx⟩ := sec_at (ss := ss) (k := i) (by rw [← Hn.out]; exact hlt)
      have htk := take_snoc ss i (m, xs) hx
      have Htk : Hid (secsOf (ss.take (i + 1)) = secsOf (ss.take i) ++ [⟨stS xs, stQ xs, (m : Int)⟩]) := Lib.hid (by rw [htk]; unfold secsOf; rw [List.map_append]; rfl)
      have Hl := Lib.hid (look_sec p c e ss.length Z L i m xs wr ((HS.out.below HB.out).sec hx) (HM.out.below HB.out))
      obtain ⟨st, hst⟩ : ∃ st, st = stS xs := ⟨_, rfl⟩
      obtain ⟨q, hq⟩ : ∃ q, q = stQ xs := ⟨_, rfl⟩
      rw [← hst, ← hq] at Hl Htk
      clear hx htk hst hq
      go_wp2_with fail
      refine Hl.out.mono ?_
      rintro e2 w2 ⟨rfl, hb2⟩
      have HB2 := Lib.hid (HB.out.trans (hb2.mono HB.out.size))
      have HG2 := Lib.hid (HG.out.below Sc.cells_len hb2)
      clear hb2
      have HB3 := Lib.hid (HB2.out.alloc HB2.out.size (.cells #[.int .i64 st, .int .u32 q, .int .i64 (m : Int)] 96))
      have HG3 := Lib.hid (HG2.out.alloc Sc.cells_len (.cells #[.int .i64 st, .int .u32 q, .int .i64 (m : Int)] 96))
      have hrow := RowSl.lit Sc.cells_len (w2.alloc (.cells #[.int .i64 st, .int .u32 q, .int .i64 (m : Int)] 96)) Empty 96 [⟨st, q, (m : Int)⟩] 1 [.int .i64 st, .int .u32 q, .int .i64 (m : Int)] rfl rfl (by decide) (fun h => h)
      have hsz2 : (w2.alloc (.cells #[.int .i64 st, .int .u32 q, .int .i64 (m : Int)] 96)).heap.size = w2.heap.size + 1 := by simp
      rw [hsz2] at hrow
      have Hrow := Lib.hid hrow
      clear hrow hsz2
      go_wp2_with (at_builtin; refine wpList_append_sc rfl _ _ rfl w.heap.size A i cap (secsOf (ss.take i)) rfl (HG3.out.alloc Sc.cells_len _) _ 1 1 _ rfl Hrow.out (fun h => by cases h) (by omega) (by have := HB3.out.size; simp at this ⊢; omega) ?_; intro A3 c3 w3 hg3 hgr3 hr3)
      have HB4 := Lib.hid (below_gotR (HB3.out.alloc HB3.out.size (.cells #[.int .i64 st, .int .u32 q, .int .i64 (m : Int)] 96)) (by have := HB3.out.size; simp at this ⊢; omega) hgr3 hr3 (Nat.le_refl _))
      have HG4 := Lib.hid hg3
      clear hg3 hgr3 hr3
      go_roundw
      case rel => exact ⟨i + 1, A3, c3, by omega, by simp, rfl, by rw [Htk.out]; exact HG4, HB4⟩
      case measure => simp [intOf]; omega
    · have hin : i = n := by omega
      subst hin
      have ht : ss.take i = ss := List.take_of_length_le (by have := Hn.out; omega)
      rw [ht] at HG
      go_wp2_with fail
      go_ret2
      exact ⟨⟨A, cap, rfl, HG.out⟩, HB.out⟩

end Go.Proofs.YtnhfmcijadficaaGreatDoor

/- The walks over blob's mayNotBe, and over slices.ContainsFunc at changes: with a function, with a closure that holds one variable; blob's refusal. -/
namespace Go.Proofs.YtnhfmcijadficaaGreatDoor
set_option maxRecDepth 100000
open Go.RowKit

set_option maxHeartbeats 1000000 in
theorem mayNotBe_any (f : Ch) (w : World) (hf : ByteSl w Empty f.A f.n f.cap f.blob ∧ (f.A = none → f.n = 0 ∧ f.cap = 0)) :
    Calls Tryz.prog 84 #[f.v] w fun e1 w' => e1 = .returned (.bool (!f.may)) ∧ Below w.heap.size w w' := by
  have hr := f.rAt hf
  have Hr := Lib.hid hr
  have Hrec := Lib.hid (chRec_any f 1)
  have hb0 := (Below.refl w.heap.size w).alloc (Nat.le_refl _) (.cells #[.bool f.del, .string f.s, .slice f.A f.n f.cap] 37)
  have Hb0 := Lib.hid hb0
  have hv : f.v = .agg #[.bool f.del, .string f.s, .slice f.A f.n f.cap] := rfl
  rw [hv] at Hrec ⊢
  clear hf hr hb0
  cases hm : f.may
  · have Hm : Hid (mayB (f.rk : Int) 1 (f.s.size : Int) (f.rN : Int) 0 = false) := Lib.hid hm
    clear hm
    go_enter Tryz.func84, Tryz.ntmps84
    go_wp2_with fail
    refine (Hrec.out _).mono ?_
    unfold recV
    rintro e1 w1 ⟨rfl, hb1⟩
    have Hb1 := Lib.hid (Hb0.out.trans (hb1.mono Hb0.out.size))
    clear hb1
    go_wp2_with fail
    refine (rcBytes_no (f.rk : Int) 1 0 f.s f.rA f.rN f.rC _ Hm.out).mono ?_
    rintro e2 w2 ⟨rfl, hb2⟩
    have Hb2 := Lib.hid (Hb1.out.trans (hb2.mono Hb1.out.size))
    clear hb2
    go_wp2_with fail
    go_ret
    exact ⟨rfl, Hb2.out⟩
  · have Hm : Hid (mayB (f.rk : Int) ((1 : Nat) : Int) (f.s.size : Int) (f.rN : Int) ((0 : Nat) : Int) = true) := Lib.hid hm
    clear hm
    go_enter Tryz.func84, Tryz.ntmps84
    go_wp2_with fail
    refine (Hrec.out _).mono ?_
    unfold recV
    rintro e1 w1 ⟨rfl, hb1⟩
    have Hb1 := Lib.hid (Hb0.out.trans (hb1.mono Hb0.out.size))
    clear hb1
    have hy := rcBytes_yes f.rk 1 0 f.s f.rA f.rN f.rC f.rB w1 Hm.out (by decide) (Hr.out.1.only (Only.of_below (S := Empty) Hb1.out) (fun _ _ h => h)) Hr.out.2
    have Hy := Lib.hid hy
    clear hy
    go_wp2_with fail
    refine Hy.out.mono ?_
    rintro e2 w2 ⟨⟨A2, cap2, rfl, _⟩, hb2⟩
    have Hb2 := Lib.hid (Hb1.out.trans (hb2.mono Hb1.out.size))
    clear hb2
    go_wp2_with fail
    go_ret
    exact ⟨rfl, Hb2.out⟩

/-- The place of the first that a test lets by. -/
def firstI (t : Ch → Bool) (l : List Ch) : Int := match l.findIdx? t with | some i => (i : Int) | none => -1

set_option maxHeartbeats 2000000 in
theorem index_plain (g : FuncId) (t : Ch → Bool) (A : Option Addr) (n cap : Nat) (l : List Ch) (w : World) (hC : Chs w Empty A n cap l) (hg : Enters Tryz.prog g)
    (ht : ∀ f ∈ l, ∀ W, Below w.heap.size w W → Calls Tryz.prog g #[f.v] W fun e1 w' => e1 = .returned (.bool (t f)) ∧ Below W.heap.size W w') :
    Calls Tryz.prog 123 #[.slice A n cap, .func (.func g) #[] #[]] w fun e1 w' => e1 = .returned (.int .i64 (firstI t l)) ∧ Below w.heap.size w w' := by
  have HC := Lib.hid hC
  have HT := Lib.hid ht
  have HG := Lib.hid hg
  have hcap : n ≤ cap := hC.2.1
  have hcap2 : cap ≤ 9223372036854775807 := by have := hC.2.2.1; unfold maxLen at this; omega
  clear hC ht hg
  go_enter Tryz.func123, Tryz.ntmps123
  go_wp2_with fail
  go_loopw [8] (fun v wr => ∃ i : Nat, i ≤ n ∧ v = .int .i64 (i : Int) ∧ Hid (∀ j f, j < i → l[j]? = some f → t f = false) ∧ Hid (Below w.heap.size w wr)) (fun v _ => n - (intOf v).toNat)
  case atStart => exact ⟨0, Nat.zero_le _, rfl, Lib.hid (fun j f h _ => absurd h (by omega)), Lib.hid (Below.refl _ _)⟩
  case round =>
    obtain ⟨i, hi, rfl, HF, HB⟩ := hrel
    by_cases hlt : i < n
    · obtain ⟨b, o, f, rfl, hb, -, hf, hc⟩ := (HC.out.below HB.out).at_ hlt
      have Hcall := Lib.hid (HT.out f (List.mem_of_getElem? hf) wr HB.out)
      have hv : f.v = .agg #[.bool f.del, .string f.s, .slice f.A f.n f.cap] := rfl
      rw [hv] at Hcall
      have c0 := hc 0 (by omega)
      have c1 := hc 1 (by omega)
      have c2 := hc 2 (by omega)
      simp [Ch.cells] at c0 c1 c2
      have Hf := Lib.hid hf
      have Hin := Lib.hid (HG.out #[.agg #[.bool f.del, .string f.s, .slice f.A f.n f.cap]] wr)
      clear hc hf hv
      go_wp2_with fail
      rw [Hin.out, Oper.upon_enter]
      refine Hcall.out.mono ?_
      rintro e1 w1 ⟨rfl, hb1⟩
      have HB1 := Lib.hid (HB.out.trans (hb1.mono HB.out.size))
      clear hb1
      cases hm : t f
      · have HF2 : Hid (∀ j q, j < i + 1 → l[j]? = some q → t q = false) := Lib.hid (fun j q hj hq => by
          by_cases hji : j = i
          · subst hji
            rw [Hf.out] at hq
            cases hq
            exact hm
          · exact HF.out j q (by omega) hq)
        clear hm
        go_wp2_with fail
        go_roundw
        case rel => exact ⟨i + 1, by omega, by simp, HF2, HB1⟩
        case measure => simp [intOf]; omega
      · have hfi : firstI t l = (i : Int) := by
          unfold firstI
          have : l.findIdx? t = some i := by
            rw [List.findIdx?_eq_some_iff_getElem]
            have hil : i < l.length := (List.getElem?_eq_some_iff.1 Hf.out).1
            have hfe : l[i] = f := (List.getElem?_eq_some_iff.1 Hf.out).2
            refine ⟨hil, by rw [hfe]; exact hm, fun j hj => ?_⟩
            rw [HF.out j l[j] hj (List.getElem?_eq_getElem (by omega))]
            decide
          rw [this]
        have Hfi := Lib.hid hfi
        clear hm hfi
        go_wp2_with fail
        go_ret
        exact ⟨by rw [Hfi.out]; rfl, HB1.out⟩
    · have hin : i = n := by omega
      subst hin
      have hfi : firstI t l = -1 := by
        unfold firstI
        have : l.findIdx? t = none := by
          rw [List.findIdx?_eq_none_iff]
          intro x hx
          obtain ⟨j, hj, he⟩ := List.mem_iff_getElem.1 hx
          exact HF.out j x (by have := HC.out.1; omega) (by rw [List.getElem?_eq_getElem hj, he])
        rw [this]
      have Hfi := Lib.hid hfi
      clear hfi
      go_wp2_with fail
      go_ret
      exact ⟨by rw [Hfi.out]; rfl, HB.out⟩

theorem contains_plain (g : FuncId) (t : Ch → Bool) (A : Option Addr) (n cap : Nat) (l : List Ch) (w : World) (hC : Chs w Empty A n cap l) (hg : Enters Tryz.prog g)
    (ht : ∀ f ∈ l, ∀ W, Below w.heap.size w W → Calls Tryz.prog g #[f.v] W fun e1 w' => e1 = .returned (.bool (t f)) ∧ Below W.heap.size W w') :
    Calls Tryz.prog 83 #[.slice A n cap, .func (.func g) #[] #[]] w fun e1 w' => e1 = .returned (.bool (l.any t)) ∧ Below w.heap.size w w' := by
  have Hi := Lib.hid (index_plain g t A n cap l w hC hg ht)
  have he : decide (0 ≤ firstI t l) = l.any t := by
    unfold firstI
    cases h : l.findIdx? t with
    | none =>
      rw [List.findIdx?_eq_none_iff] at h
      rw [show l.any t = false from by rw [List.any_eq_false]; intro x hx; rw [h x hx]; decide]
      decide
    | some i =>
      rw [List.findIdx?_eq_some_iff_getElem] at h
      obtain ⟨hi, h1, _⟩ := h
      rw [show l.any t = true from List.any_eq_true.2 ⟨_, List.getElem_mem hi, h1⟩]
      simp
  obtain ⟨q, hq⟩ : ∃ q, q = firstI t l := ⟨_, rfl⟩
  rw [← hq] at Hi he
  have He := Lib.hid he
  clear hC hg ht he hq
  go_enter Tryz.func83, Tryz.ntmps83
  go_wp2_with fail
  refine Hi.out.mono ?_
  rintro e1 w1 ⟨rfl, hb1⟩
  go_wp2_with fail
  go_ret
  exact ⟨by rw [← He.out]; rfl, hb1⟩

set_option maxHeartbeats 2000000 in
theorem index_cap (g : FuncId) (a : Addr) (t : Ch → Bool) (A : Option Addr) (n cap : Nat) (l : List Ch) (w : World) (hC : Chs w Empty A n cap l) (hg : Enters Tryz.prog g)
    (ht : ∀ f ∈ l, ∀ W, Below w.heap.size w W → Calls Tryz.prog g #[f.v, .pointer (some a)] W fun e1 w' => e1 = .returned (.bool (t f)) ∧ Below W.heap.size W w') :
    Calls Tryz.prog 123 #[.slice A n cap, .func (.func g) #[] #[.pointer (some a)]] w fun e1 w' => e1 = .returned (.int .i64 (firstI t l)) ∧ Below w.heap.size w w' := by
  have HC := Lib.hid hC
  have HT := Lib.hid ht
  have HG := Lib.hid hg
  have hcap : n ≤ cap := hC.2.1
  have hcap2 : cap ≤ 9223372036854775807 := by have := hC.2.2.1; unfold maxLen at this; omega
  clear hC ht hg
  go_enter Tryz.func123, Tryz.ntmps123
  go_wp2_with fail
  go_loopw [8] (fun v wr => ∃ i : Nat, i ≤ n ∧ v = .int .i64 (i : Int) ∧ Hid (∀ j f, j < i → l[j]? = some f → t f = false) ∧ Hid (Below w.heap.size w wr)) (fun v _ => n - (intOf v).toNat)
  case atStart => exact ⟨0, Nat.zero_le _, rfl, Lib.hid (fun j f h _ => absurd h (by omega)), Lib.hid (Below.refl _ _)⟩
  case round =>
    obtain ⟨i, hi, rfl, HF, HB⟩ := hrel
    by_cases hlt : i < n
    · obtain ⟨b, o, f, rfl, hb, -, hf, hc⟩ := (HC.out.below HB.out).at_ hlt
      have Hcall := Lib.hid (HT.out f (List.mem_of_getElem? hf) wr HB.out)
      have hv : f.v = .agg #[.bool f.del, .string f.s, .slice f.A f.n f.cap] := rfl
      rw [hv] at Hcall
      have c0 := hc 0 (by omega)
      have c1 := hc 1 (by omega)
      have c2 := hc 2 (by omega)
      simp [Ch.cells] at c0 c1 c2
      have Hf := Lib.hid hf
      have Hin := Lib.hid (HG.out #[.agg #[.bool f.del, .string f.s, .slice f.A f.n f.cap], .pointer (some a)] wr)
      clear hc hf hv
      go_wp2_with fail
      rw [Hin.out, Oper.upon_enter]
      refine Hcall.out.mono ?_
      rintro e1 w1 ⟨rfl, hb1⟩
      have HB1 := Lib.hid (HB.out.trans (hb1.mono HB.out.size))
      clear hb1
      cases hm : t f
      · have HF2 : Hid (∀ j q, j < i + 1 → l[j]? = some q → t q = false) := Lib.hid (fun j q hj hq => by
          by_cases hji : j = i
          · subst hji
            rw [Hf.out] at hq
            cases hq
            exact hm
          · exact HF.out j q (by omega) hq)
        clear hm
        go_wp2_with fail
        go_roundw
        case rel => exact ⟨i + 1, by omega, by simp, HF2, HB1⟩
        case measure => simp [intOf]; omega
      · have hfi : firstI t l = (i : Int) := by
          unfold firstI
          have : l.findIdx? t = some i := by
            rw [List.findIdx?_eq_some_iff_getElem]
            have hil : i < l.length := (List.getElem?_eq_some_iff.1 Hf.out).1
            have hfe : l[i] = f := (List.getElem?_eq_some_iff.1 Hf.out).2
            refine ⟨hil, by rw [hfe]; exact hm, fun j hj => ?_⟩
            rw [HF.out j l[j] hj (List.getElem?_eq_getElem (by omega))]
            decide
          rw [this]
        have Hfi := Lib.hid hfi
        clear hm hfi
        go_wp2_with fail
        go_ret
        exact ⟨by rw [Hfi.out]; rfl, HB1.out⟩
    · have hin : i = n := by omega
      subst hin
      have hfi : firstI t l = -1 := by
        unfold firstI
        have : l.findIdx? t = none := by
          rw [List.findIdx?_eq_none_iff]
          intro x hx
          obtain ⟨j, hj, he⟩ := List.mem_iff_getElem.1 hx
          exact HF.out j x (by have := HC.out.1; omega) (by rw [List.getElem?_eq_getElem hj, he])
        rw [this]
      have Hfi := Lib.hid hfi
      clear hfi
      go_wp2_with fail
      go_ret
      exact ⟨by rw [Hfi.out]; rfl, HB.out⟩

theorem contains_cap (g : FuncId) (a : Addr) (t : Ch → Bool) (A : Option Addr) (n cap : Nat) (l : List Ch) (w : World) (hC : Chs w Empty A n cap l) (hg : Enters Tryz.prog g)
    (ht : ∀ f ∈ l, ∀ W, Below w.heap.size w W → Calls Tryz.prog g #[f.v, .pointer (some a)] W fun e1 w' => e1 = .returned (.bool (t f)) ∧ Below W.heap.size W w') :
    Calls Tryz.prog 83 #[.slice A n cap, .func (.func g) #[] #[.pointer (some a)]] w fun e1 w' => e1 = .returned (.bool (l.any t)) ∧ Below w.heap.size w w' := by
  have Hi := Lib.hid (index_cap g a t A n cap l w hC hg ht)
  have he : decide (0 ≤ firstI t l) = l.any t := by
    unfold firstI
    cases h : l.findIdx? t with
    | none =>
      rw [List.findIdx?_eq_none_iff] at h
      rw [show l.any t = false from by rw [List.any_eq_false]; intro x hx; rw [h x hx]; decide]
      decide
    | some i =>
      rw [List.findIdx?_eq_some_iff_getElem] at h
      obtain ⟨hi, h1, _⟩ := h
      rw [show l.any t = true from List.any_eq_true.2 ⟨_, List.getElem_mem hi, h1⟩]
      simp
  obtain ⟨q, hq⟩ : ∃ q, q = firstI t l := ⟨_, rfl⟩
  rw [← hq] at Hi he
  have He := Lib.hid he
  clear hC hg ht he hq
  go_enter Tryz.func83, Tryz.ntmps83
  go_wp2_with fail
  refine Hi.out.mono ?_
  rintro e1 w1 ⟨rfl, hb1⟩
  go_wp2_with fail
  go_ret
  exact ⟨by rw [← He.out]; rfl, hb1⟩

/-- Do two changes have one key? -/
def keyEq (c d : Ch) : Bool := d.s.toList == c.s.toList

theorem refusal1_any (f c : Ch) (a : Nat) (w : World) (ha : Blk w a 37 #[.bool c.del, .string c.s, .slice c.A c.n c.cap]) :
    Calls Tryz.prog 85 #[f.v, .pointer (some ⟨a, 0, none⟩)] w fun e1 w' => e1 = .returned (.bool (keyEq c f)) ∧ Below w.heap.size w w' := by
  have hv : f.v = .agg #[.bool f.del, .string f.s, .slice f.A f.n f.cap] := rfl
  rw [hv]
  have h1 : w.cell? ⟨a, 1, none⟩ = some (.string c.s) := ha.cell 1
  have hl := ha.lt
  clear ha
  unfold keyEq
  go_enter Tryz.func85, Tryz.ntmps85
  go_wp2
  go_ret
  exact ⟨rfl, (Below.refl _ _).alloc (Nat.le_refl _) _⟩

/-- Has one of them a key that one ahead of it has? -/
def dupB (l : List Ch) : Bool := (List.range l.length).any fun i => match l[i]? with | some c => (l.take i).any (keyEq c) | none => false
/-- Why changes can't be a commit: Commit's errors of ErrArg, ErrExists, ErrLong, in this order. -/
def refuC (l : List Ch) (b : Nat) : Int := if l.length = 0 ∨ 16 < l.length ∨ l.any (fun f => !f.may) = true then 1 else if dupB l = true then 12 else if b / 2 < roomL l then 9 else 0

end Go.Proofs.YtnhfmcijadficaaGreatDoor
