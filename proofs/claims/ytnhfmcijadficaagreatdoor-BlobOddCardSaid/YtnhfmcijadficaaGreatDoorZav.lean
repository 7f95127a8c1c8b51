/- A store in memory; the walks over blob's apply and Get. -/
import Derived.Test.YtnhfmcijadficaaGreatDoorZau
import Derived.Test.YtnhfmcijadficaaGreatDoorZap
import Derived.Deep.RegionHeld3
import Derived.Test.YtnhfmcijadficaaGreatDoorZas
import Derived.Shelf.Sort.Plain
import Derived.Shelf.Slices.In.SortNone
import Derived.Test.YtnhfmcijadficaaGreatDoorZaj
import Derived.Sort.OwnSorted
namespace Go.Proofs.YtnhfmcijadficaaGreatDoor
set_option maxRecDepth 100000
open Go.RowKit Go.Maps

/-- The blobs of a map read as they should; their rows lie in no block of S. -/
def BlobsAt (w : World) (S : Nat → Prop) (M : Al Sv) : Prop := ∀ q ∈ M, ByteSl w S (adr q.2.g) q.2.n q.2.cap q.2.xs ∧ (adr q.2.g = none → q.2.n = 0 ∧ q.2.cap = 0)
/-- The blocks that a store's calls turn. -/
def Mut (s mb p c e : Nat) : Nat → Prop := fun k => k = s ∨ k = mb ∨ Three p c e k

section
variable {w w' : World} {S T : Nat → Prop} {M : Al Sv}
theorem BlobsAt.only (h : BlobsAt w S M) (k : Only T w w') (hT : ∀ i, i < w.heap.size → T i → S i) : BlobsAt w' S M := fun q hq => ⟨(h q hq).1.only k hT, (h q hq).2⟩
theorem BlobsAt.below (h : BlobsAt w S M) (k : Below w.heap.size w w') : BlobsAt w' S M := h.only (Only.of_below (S := Empty) k) (fun _ _ h => h.elim)
theorem BlobsAt.put (h : BlobsAt w S M) (k : List UInt8) (f : Sv) (hf : ByteSl w S (adr f.g) f.n f.cap f.xs ∧ (adr f.g = none → f.n = 0 ∧ f.cap = 0)) : BlobsAt w S (aput M k f) := fun q hq => by
  rcases (aput_mem M k f q).1 hq with rfl | ⟨h1, _⟩
  · exact hf
  · exact h q h1
theorem BlobsAt.del (h : BlobsAt w S M) (k : List UInt8) : BlobsAt w S (adel M k) := fun q hq => h q ((adel_mem M k q).1 hq).1
theorem BlobsAt.at_ (h : BlobsAt w S M) (k : List UInt8) : ByteSl w S (adr (svAt M k).g) (svAt M k).n (svAt M k).cap (svAt M k).xs ∧ (adr (svAt M k).g = none → (svAt M k).n = 0 ∧ (svAt M k).cap = 0) := by
  unfold svAt
  cases hf : afind M k with
  | none => exact ⟨ByteSl.nil_ _ _ _ _ (by simp [Sv.zero, maxLen]), fun _ => ⟨rfl, rfl⟩⟩
  | some f => exact h _ (afind_mem hf)
end

/-- A store lies in memory. -/
structure StoreAt (w : World) (s mb p c e : Nat) (M : Al Sv) (h : HeadV) (d : Bool) : Prop where
  blk : Blk w s 106 (storeC p mb h d)
  map : StM w mb M.length M
  bl : BlobsAt w (Mut s mb p c e) M

section
variable {w w' : World} {s mb p c e : Nat} {M : Al Sv} {h : HeadV} {d : Bool} {T : Nat → Prop}
theorem StoreAt.ne (k : StoreAt w s mb p c e M h d) : mb ≠ s := k.map.blk_ne k.blk
theorem StoreAt.below (k : StoreAt w s mb p c e M h d) (b : Below w.heap.size w w') : StoreAt w' s mb p c e M h d :=
  ⟨k.blk.of (b.block s k.blk.lt), k.map.below b, k.bl.below b⟩
/-- Whatever turned was neither the store nor its map, nor a blob's row. -/
theorem StoreAt.only (k : StoreAt w s mb p c e M h d) (b : Only T w w') (hs : ¬ T s) (hm : ¬ T mb) (hT : ∀ i, i < w.heap.size → T i → Mut s mb p c e i) : StoreAt w' s mb p c e M h d :=
  ⟨b.blk k.blk hs, k.map.only b hm, k.bl.only b hT⟩
end

/-- A store into a map, as an equation. -/
theorem StM.put_run {w : World} {b n : Nat} {M : Al Sv} (hM : StM w b n M) (hn : n < maxLen) (s : ByteArray) (hs : s.size ≤ maxLen) (f : Sv) :
    ∃ w', (Instr.mapUpdate 102 (.map (some b)) (.string s) f.v).run Tryz.prog w = .ok () w' ∧ StM w' b (n + 1) (aput M s.data.toList f) ∧ Only (· = b) w w' := by
  obtain ⟨w', hrun, r1, r2⟩ := World.ownsMap.update (P := Tryz.prog) hM Tryz.standKeyed Tryz.underlying102 hn (WideMaps.keyOf_string_mk Tryz.underlying9 hs) (standElem_mk f)
  rw [put_sm] at r1
  exact ⟨w', hrun, r1, Only.of_grown r2 (fun k e _ => by cases e; rfl)⟩
theorem StM.del_run {w : World} {b n : Nat} {M : Al Sv} (hM : StM w b n M) (s : ByteArray) (hs : s.size ≤ maxLen) (ty : TypeId) :
    ∃ w', (Builtin.delete_ #[102, 9] ty #[.map (some b), .string s]).run Tryz.prog w = .ok (.tuple #[]) w' ∧ StM w' b n (adel M s.data.toList) ∧ Only (· = b) w w' := by
  obtain ⟨w', hrun, r1, r2⟩ := World.ownsMap.drop (P := Tryz.prog) hM Tryz.standKeyed Tryz.underlying102 (WideMaps.keyOf_string_mk Tryz.underlying9 hs) ty
  rw [del_sm] at r1
  exact ⟨w', hrun, r1, Only.of_grown r2.grown (fun k e _ => by cases e; rfl)⟩

/-- What a change makes of a map. -/
def applyA (M : Al (Int × List UInt8)) (f : Ch) (sec : Int) : Al (Int × List UInt8) := if f.del then adel M f.s.data.toList else aput M f.s.data.toList (sec, f.blob)
def Sv.a (f : Sv) : Int × List UInt8 := (f.sec, f.xs)
theorem ains_len {α : Type} (p : List UInt8 × α) : ∀ M : Al α, (ains p M).length = M.length + 1
  | [] => rfl
  | q :: r => by
    unfold ains
    split
    · rfl
    · rw [List.length_cons, ains_len p r, List.length_cons]
theorem aput_len {α : Type} (M : Al α) (k : List UInt8) (v : α) : (aput M k v).length ≤ M.length + 1 := by
  unfold aput
  rw [ains_len]
  have := List.length_filter_le (fun p : List UInt8 × α => !(p.1 == k)) M
  unfold adel
  omega
theorem adel_len {α : Type} (M : Al α) (k : List UInt8) : (adel M k).length ≤ M.length := List.length_filter_le _ _

/-- A copy of bytes, as a map keeps it. -/
theorem clone_sv (A : Option Addr) (n cap : Nat) (xs : List UInt8) (S : Nat → Prop) (w : World) (hB : ByteSl w S A n cap xs) (hA : A = none → n = 0 ∧ cap = 0) (hm : n ≤ 16777216) (hS : ∀ W, Below w.heap.size w W → ∀ q, w.heap.size ≤ q → q < W.heap.size → ¬ S q) :
    Calls Tryz.prog 67 #[.slice A n cap] w fun e w' => (∃ g cap', e = .returned (.slice (adr g) n cap') ∧ ByteSl w' S (adr g) n cap' xs ∧ (adr g = none → n = 0 ∧ cap' = 0)) ∧ Below w.heap.size w w' := by
  refine (clone_any A n cap xs w (hB.mono (fun _ _ h => h.elim)) hA hm).mono ?_
  rintro e1 w1 ⟨⟨A1, cap1, rfl, hG⟩, hb⟩
  obtain ⟨A', cap', he, hB1, _⟩ := ByteSl.of_own (S := S) hG.own (fun q h1 h2 => hS w1 hb q h1 h2)
  cases he
  refine ⟨?_, hb⟩
  rcases hG.own.2 with ⟨he, h0⟩ | ⟨g, cap2, cur, he, _⟩
  · cases he
    exact ⟨none, 0, rfl, hB1, fun _ => ⟨h0, rfl⟩⟩
  · cases he
    exact ⟨some g, cap1, rfl, hB1, fun h => by cases h⟩

/-- How a change ends in a store. -/
def Applied (s mb p c e : Nat) (M : Al Sv) (h : HeadV) (d : Bool) (f : Ch) (sec : Int) (w w' : World) (e1 : Ending) : Prop :=
  e1 = .returned (.tuple #[]) ∧ (∃ M', StoreAt w' s mb p c e M' h d ∧ amap Sv.a M' = applyA (amap Sv.a M) f sec ∧ M'.length ≤ M.length + 1) ∧ Only (· = mb) w w'

set_option maxHeartbeats 2000000 in
theorem apply_put (s mb p c e : Nat) (M : Al Sv) (h : HeadV) (d : Bool) (f : Ch) (sec : Int) (w : World) (hS : StoreAt w s mb p c e M h d) (hf : ByteSl w (Mut s mb p c e) f.A f.n f.cap f.blob ∧ (f.A = none → f.n = 0 ∧ f.cap = 0)) (hd : f.del = false) (hk : f.s.size ≤ 64) (hn : f.n ≤ 4096) (hM : M.length ≤ 1048576) (hlt : Three p c e s → False) (hlt2 : ∀ q, w.heap.size ≤ q → ¬ Mut s mb p c e q) :
    Calls Tryz.prog 50 #[.pointer (some ⟨s, 0, none⟩), f.v, .int .i64 sec] w fun e1 w' => Applied s mb p c e M h d f sec w w' e1 := by
  obtain ⟨dl, key, A, n, cap, xs⟩ := f
  simp only at hd hk hn hf
  subst hd
  unfold Ch.v
  have HS := Lib.hid hS
  have hb0 := (Below.refl w.heap.size w).alloc (Nat.le_refl _) (.cells #[.bool false, .string key, .slice A n cap] 37)
  have Hcl := Lib.hid (fun W (hW : Only Empty (w.alloc (.cells #[.bool false, .string key, .slice A n cap] 37)) W) => clone_sv A n cap xs (Mut s mb p c e) W (hf.1.only ((Only.of_below (S := Empty) hb0).trans hW) (fun _ _ h => h.elim)) hf.2 (by omega) (fun W2 _ q h1 _ => hlt2 q (by have := hW.size; simp at this; omega)))
  have hbox := Blk.new w 37 #[.bool false, .string key, .slice A n cap]
  have s1' : w.cell? ⟨s, 1, none⟩ = some (.map (some mb)) := hS.blk.cell 1
  have hsl : s < w.heap.size := hS.blk.lt
  have hne := hS.ne
  have hml : mb < w.heap.size := hS.map.lt
  have HSx : Hid (∀ W, Only (· = mb) (w.alloc (.cells #[.bool false, .string key, .slice A n cap] 37)) W → W.cell? ⟨s, 1, none⟩ = some (.map (some mb)) ∧ W.cell? ⟨w.heap.size, 1, none⟩ = some (.string key) ∧ W.cell? ⟨w.heap.size, 2, none⟩ = some (.slice A n cap)) := Lib.hid (fun W hW => by
    have h1 := hW.blk hbox (by omega)
    exact ⟨(hW.blk (hS.blk.alloc _) (fun h => hne h.symm)).cell 1, h1.cell 1, h1.cell 2⟩)
  have HM : Hid (∀ W, Only Empty (w.alloc (.cells #[.bool false, .string key, .slice A n cap] 37)) W → StM W mb M.length M) := Lib.hid (fun W hW => (hS.map.alloc _).only hW (fun h => h))
  have Hb0 := Lib.hid hb0
  have Hend : Hid (∀ (g : Option Nat) (cap' : Nat) (W1 W2 : World), Only Empty (w.alloc (.cells #[.bool false, .string key, .slice A n cap] 37)) W1 → ByteSl W1 (Mut s mb p c e) (adr g) n cap' xs ∧ (adr g = none → n = 0 ∧ cap' = 0) → StM W2 mb (M.length + 1) (aput M key.data.toList ⟨sec, g, n, cap', xs⟩) → Only (· = mb) W1 W2 →
      (∃ M', StoreAt W2 s mb p c e M' h d ∧ amap Sv.a M' = applyA (amap Sv.a M) ⟨false, key, A, n, cap, xs⟩ sec ∧ M'.length ≤ M.length + 1) ∧ Only (· = mb) w W2) := Lib.hid (fun g cap' W1 W2 h1 h2 h3 h4 => by
    have h0 := (Only.of_below (S := Empty) hb0).trans h1
    have h5 : Only (· = mb) w W2 := (h0.mono (T := (· = mb)) (fun _ _ h => h.elim)).trans h4
    refine ⟨⟨_, ⟨h5.blk hS.blk (fun h => hne h.symm), h3.tight, ?_⟩, ?_, aput_len _ _ _⟩, h5⟩
    · exact BlobsAt.put (hS.bl.only h5 (fun i _ h => Or.inr (Or.inl h))) _ _ ⟨h2.1.only h4 (fun i _ h => Or.inr (Or.inl h)), h2.2⟩
    · rw [aput_map]
      rfl)
  have hk2 : Hid (key.size ≤ maxLen) := Lib.hid (by unfold maxLen; omega)
  have hM2 : Hid (M.length < maxLen) := Lib.hid (by unfold maxLen; omega)
  clear hS hf hlt2 hbox hb0
  go_enter Tryz.func50, Tryz.ntmps50
  go_wp2_with fail
  have hD : Only Empty (w.alloc (.cells #[.bool false, .string key, .slice A n cap] 37)) (w.alloc (.cells #[.bool false, .string key, .slice A n cap] 37)).drew := (Only.refl _ _).drew
  have hs1 := HSx.out _ (hD.mono (fun _ _ h => h.elim))
  have HD := Lib.hid hD
  clear hD
  go_region_held3 (fun W => W.cell? ⟨s, 1, none⟩ = some (.map (some mb)) ∧ W.cell? ⟨w.heap.size, 1, none⟩ = some (.string key) ∧ W.cell? ⟨w.heap.size, 2, none⟩ = some (.slice A n cap)) (first | with_reducible exact hs1 | with_reducible exact hs10 | with_reducible exact hs11)
    ((go_at_call 67; (with_reducible refine (Hcl.out _ HD.out).mono ?_); rintro e10 w10 ⟨⟨g10, cap10, rfl, hG10⟩, hb10⟩; have hO10 := HD.out.trans (Only.of_below (S := Empty) hb10); have hs10 := HSx.out _ (hO10.mono (fun _ _ h => h.elim)); obtain ⟨w11, hr11, hm11, ho11⟩ := (HM.out _ hO10).put_run hM2.out key hk2.out ⟨sec, g10, n, cap10, xs⟩; unfold Sv.v at hr11; simp only at hr11; have hs11 := HSx.out _ ((hO10.mono (fun _ _ h => h.elim)).trans ho11)))
  go_wp2
  go_end0
  exact ⟨rfl, Hend.out g10 cap10 w10 w11 hO10 hG10 hm11 ho11⟩

set_option maxHeartbeats 2000000 in
theorem apply_del (s mb p c e : Nat) (M : Al Sv) (h : HeadV) (d : Bool) (f : Ch) (sec : Int) (w : World) (hS : StoreAt w s mb p c e M h d) (hd : f.del = true) (hk : f.s.size ≤ 64) :
    Calls Tryz.prog 50 #[.pointer (some ⟨s, 0, none⟩), f.v, .int .i64 sec] w fun e1 w' => Applied s mb p c e M h d f sec w w' e1 := by
  obtain ⟨dl, key, A, n, cap, xs⟩ := f
  simp only at hd hk
  subst hd
  unfold Ch.v
  have hb0 := (Below.refl w.heap.size w).alloc (Nat.le_refl _) (.cells #[.bool true, .string key, .slice A n cap] 37)
  have s1 : w.cell? ⟨s, 1, none⟩ = some (.map (some mb)) := hS.blk.cell 1
  have hsl : s < w.heap.size := hS.blk.lt
  have hne := hS.ne
  have hO0 := (Only.of_below (S := Empty) hb0).drew
  obtain ⟨w2, hr2, hm2, ho2⟩ := (hS.map.only hO0 (fun h => h)).del_run key (by unfold maxLen; omega) 0
  have hend : (∃ M', StoreAt w2 s mb p c e M' h d ∧ amap Sv.a M' = applyA (amap Sv.a M) ⟨true, key, A, n, cap, xs⟩ sec ∧ M'.length ≤ M.length + 1) ∧ Only (· = mb) w w2 := by
    have h5 : Only (· = mb) w w2 := (hO0.mono (T := (· = mb)) (fun _ _ h => h.elim)).trans ho2
    refine ⟨⟨_, ⟨h5.blk hS.blk (fun h => hne h.symm), hm2.tight, ?_⟩, ?_, Nat.le_succ_of_le (adel_len _ _)⟩, h5⟩
    · exact BlobsAt.del (hS.bl.only h5 (fun i _ h => Or.inr (Or.inl h))) _
    · rw [adel_map]
      rfl
  have Hend := Lib.hid hend
  clear hS hend hm2 ho2 hO0 hb0
  go_enter Tryz.func50, Tryz.ntmps50
  go_wp2_with fail
  go_region
  go_wp2
  exact bodyPost_ret (v := .tuple #[]) (by simp [results, Tryz.results50, go_sem]) rfl ⟨rfl, Hend.out⟩

theorem apply_any (s mb p c e : Nat) (M : Al Sv) (h : HeadV) (d : Bool) (f : Ch) (sec : Int) (w : World) (hS : StoreAt w s mb p c e M h d) (hf : ByteSl w (Mut s mb p c e) f.A f.n f.cap f.blob ∧ (f.A = none → f.n = 0 ∧ f.cap = 0)) (hF : f.s.size ≤ 64 ∧ f.rN ≤ 4096) (hM : M.length ≤ 1048576) (hlt : Three p c e s → False) (hlt2 : ∀ q, w.heap.size ≤ q → ¬ Mut s mb p c e q) :
    Calls Tryz.prog 50 #[.pointer (some ⟨s, 0, none⟩), f.v, .int .i64 sec] w fun e1 w' => Applied s mb p c e M h d f sec w w' e1 := by
  cases hd : f.del
  · refine apply_put s mb p c e M h d f sec w hS hf hd hF.1 ?_ hM hlt hlt2
    have := hF.2
    unfold Ch.rN at this
    rw [hd] at this
    exact this
  · exact apply_del s mb p c e M h d f sec w hS hd hF.1

set_option maxHeartbeats 2000000 in
theorem get_any (s mb p c e : Nat) (M : Al Sv) (h : HeadV) (d : Bool) (key : ByteArray) (S : Nat → Prop) (w : World) (hS : StoreAt w s mb p c e M h d) (hk : key.size ≤ maxLen) (hn : (svAt M key.data.toList).n ≤ 16777216) :
    Calls Tryz.prog 28 #[.pointer (some ⟨s, 0, none⟩), .string key] w fun e1 w' => (∃ A' cap', e1 = .returned (.tuple #[.slice A' (svAt M key.data.toList).n cap', .bool (afind M key.data.toList).isSome]) ∧ Got w.heap.size w' A' (svAt M key.data.toList).n cap' (svAt M key.data.toList).xs) ∧ Below w.heap.size w w' := by
  have s1 : w.cell? ⟨s, 1, none⟩ = some (.map (some mb)) := hS.blk.cell 1
  have HS := Lib.hid hS
  have Hk := Lib.hid hk
  have hb := hS.bl.at_ key.data.toList
  have Hb := Lib.hid hb
  have hla : Hid (∀ {ops rest o a Q}, o.guard = none → ∀ (m x : Operand), o.op = Op.lookup 102 m x true → a.eval m = .map (some mb) → a.eval x = .string key →
      wpList Tryz.prog ops Q rest (a.put o.dst (.tuple #[(svAt M key.data.toList).v, .bool (afind M key.data.toList).isSome])) w → wpList Tryz.prog ops Q (o :: rest) a w) :=
    Lib.hid (fun hg m x hop hm hx hK => wpList_st_look_ok hg m x hop hm hS.map key hk hx hK)
  obtain ⟨f, hf⟩ : ∃ f, f = svAt M key.data.toList := ⟨_, rfl⟩
  obtain ⟨ok, hok⟩ : ∃ ok, ok = (afind M key.data.toList).isSome := ⟨_, rfl⟩
  rw [← hf, ← hok] at hla
  rw [← hf] at Hb hn
  rw [← hf, ← hok]
  clear hS hk hb hf hok
  obtain ⟨sec, g, n, cap, xs⟩ := f
  unfold Sv.v at hla
  simp only at hla Hb hn ⊢
  go_enter Tryz.func28, Tryz.ntmps28
  go_wp2_with (at_lookup; refine hla.out rfl _ _ rfl rfl rfl ?_)
  have hb0 := (Below.refl w.heap.size w).alloc (Nat.le_refl _) (.cells #[.int .i64 sec, .slice (adr g) n cap] 134)
  have hB1 := (Hb.out.1.only (Only.of_below (S := Empty) hb0) (fun _ _ h => h.elim)).mono (T := Empty) (fun _ _ h => h.elim)
  have Hb0 := Lib.hid hb0
  refine (clone_any (adr g) n cap xs _ hB1 Hb.out.2 hn).mono ?_
  rintro e1 w1 ⟨⟨A1, cap1, rfl, hG⟩, hb1⟩
  have HE := Lib.hid (And.intro (hG.lower hb0.size) (Hb0.out.trans (hb1.mono hb0.size)))
  clear hG hb1 hb0 hB1
  go_wp2_with fail
  go_ret2
  exact ⟨⟨A1, cap1, rfl, HE.out.1⟩, HE.out.2⟩

end Go.Proofs.YtnhfmcijadficaaGreatDoor

/- The library's sort of strings, laid at this program: its functions' and types' numbers, and that the bodies are those. -/
namespace Go.Proofs.YtnhfmcijadficaaGreatDoor
set_option maxRecDepth 100000
open Go.RowKit Go.Sort

/-- The numbers here of the sort's functions and types. -/
def sortRen : Go.Shelf.Ren := ⟨fun | 125 => 122 | 128 => 155 | 129 => 156 | 190 => 82 | 258 => 121 | 302 => 146 | 303 => 147 | 304 => 148 | 305 => 149 | 306 => 150 | 307 => 151 | 308 => 152 | 309 => 153 | 310 => 154 | 329 => 178 | 330 => 179 | 333 => 177 | 334 => 180 | 335 => 181 | 336 => 182 | 344 => 202 | n => n, fun | 0 => 0 | 3 => 3 | 4 => 4 | 5 => 5 | 9 => 9 | 31 => 67 | 46 => 195 | 51 => 45 | 53 => 168 | 131 => 172 | 182 => 226 | 183 => 227 | 218 => 256 | 222 => 260 | 228 => 274 | 229 => 275 | n => n, fun n => n⟩
theorem sortLays : Lays.n190 Tryz.prog sortRen := {
  mixed := by kernel_rfl,
  f125 := Tryz.func122.trans (congrArg some (by kernel_rfl)),
  f128 := Tryz.func155.trans (congrArg some (by kernel_rfl)),
  f129 := Tryz.func156.trans (congrArg some (by kernel_rfl)),
  f190 := Tryz.func82.trans (congrArg some (by kernel_rfl)),
  f258 := Tryz.func121.trans (congrArg some (by kernel_rfl)),
  f302 := Tryz.func146.trans (congrArg some (by kernel_rfl)),
  f303 := Tryz.func147.trans (congrArg some (by kernel_rfl)),
  f304 := Tryz.func148.trans (congrArg some (by kernel_rfl)),
  f305 := Tryz.func149.trans (congrArg some (by kernel_rfl)),
  f306 := Tryz.func150.trans (congrArg some (by kernel_rfl)),
  f307 := Tryz.func151.trans (congrArg some (by kernel_rfl)),
  f308 := Tryz.func152.trans (congrArg some (by kernel_rfl)),
  f309 := Tryz.func153.trans (congrArg some (by kernel_rfl)),
  f310 := Tryz.func154.trans (congrArg some (by kernel_rfl)),
  f329 := Tryz.func178.trans (congrArg some (by kernel_rfl)),
  f330 := Tryz.func179.trans (congrArg some (by kernel_rfl)),
  f333 := Tryz.func177.trans (congrArg some (by kernel_rfl)),
  f334 := Tryz.func180.trans (congrArg some (by kernel_rfl)),
  f335 := Tryz.func181.trans (congrArg some (by kernel_rfl)),
  f336 := Tryz.func182.trans (congrArg some (by kernel_rfl)),
  f344 := Tryz.func202.trans (congrArg some (by kernel_rfl)),
  t0 := Tryz.underlying0,
  a0 := Tryz.isAgg0,
  z0 := Tryz.sizeOf0,
  v0 := Tryz.zeroValue0,
  t3 := Tryz.underlying3,
  a3 := Tryz.isAgg3,
  z3 := Tryz.sizeOf3,
  v3 := Tryz.zeroValue3,
  t4 := Tryz.underlying4,
  a4 := Tryz.isAgg4,
  z4 := Tryz.sizeOf4,
  v4 := Tryz.zeroValue4,
  t5 := Tryz.underlying5,
  a5 := Tryz.isAgg5,
  z5 := Tryz.sizeOf5,
  v5 := Tryz.zeroValue5,
  t9 := Tryz.underlying9,
  a9 := Tryz.isAgg9,
  z9 := Tryz.sizeOf9,
  v9 := Tryz.zeroValue9,
  t31 := Tryz.underlying67,
  a31 := Tryz.isAgg67,
  z31 := Tryz.sizeOf67,
  v31 := Tryz.zeroValue67,
  t46 := Tryz.underlying195,
  a46 := Tryz.isAgg195,
  z46 := Tryz.sizeOf195,
  v46 := Tryz.zeroValue195,
  t51 := Tryz.underlying45,
  a51 := Tryz.isAgg45,
  z51 := Tryz.sizeOf45,
  v51 := Tryz.zeroValue45,
  t53 := Tryz.underlying168,
  a53 := Tryz.isAgg168,
  z53 := Tryz.sizeOf168,
  v53 := Tryz.zeroValue168,
  t131 := Tryz.underlying172,
  a131 := Tryz.isAgg172,
  z131 := Tryz.sizeOf172,
  v131 := Tryz.zeroValue172,
  t182 := Tryz.underlying226,
  a182 := Tryz.isAgg226,
  z182 := Tryz.sizeOf226,
  v182 := Tryz.zeroValue226,
  t183 := Tryz.underlying227,
  a183 := Tryz.isAgg227,
  z183 := Tryz.sizeOf227,
  v183 := Tryz.zeroValue227,
  t218 := Tryz.underlying256,
  a218 := Tryz.isAgg256,
  z218 := Tryz.sizeOf256,
  v218 := Tryz.zeroValue256,
  t222 := Tryz.underlying260,
  a222 := Tryz.isAgg260,
  z222 := Tryz.sizeOf260,
  v222 := Tryz.zeroValue260,
  t228 := Tryz.underlying274,
  a228 := Tryz.isAgg274,
  z228 := Tryz.sizeOf274,
  v228 := Tryz.zeroValue274,
  t229 := Tryz.underlying275,
  a229 := Tryz.isAgg275,
  z229 := Tryz.sizeOf275,
  v229 := Tryz.zeroValue275 }

end Go.Proofs.YtnhfmcijadficaaGreatDoor

/- Rows of strings, the sort of such a row; strings.HasPrefix; the walk over blob's Keys. -/
namespace Go.Proofs.YtnhfmcijadficaaGreatDoor
set_option maxRecDepth 100000
open Go.RowKit Go.Maps Go.Sort

def strC (k : List UInt8) : List Value := [encStr k]
theorem strC_len (k : List UInt8) : (strC k).length = 1 := rfl
theorem strC_one (k : List UInt8) : ∀ v ∈ strC k, v.oneCell' = true := by
  intro v hv
  simp only [strC, List.mem_cons, List.not_mem_nil, or_false] at hv
  subst hv
  rfl
theorem flat_strC (l : List (List UInt8)) : l.flatMap strC = l.map encStr := by
  induction l with
  | nil => rfl
  | cons k l ih => rw [List.flatMap_cons, ih]; rfl
theorem Tryz.infoStr : (Tryz.prog.info? 9).map (fun i => (i.zero, i.size, i.bytes)) = some (some (.string ⟨#[]⟩), 1, 16) := by kernel_rfl

abbrev Strs := GotR strC 1 9

/-- A row of strings of the call's own is sorted. -/
theorem sort_strs (base : Nat) (A : Option Addr) (n cap : Nat) (l : List (List UInt8)) (w : World) (h : Strs base w A n cap l) (hn : n ≤ 1048576) :
    Calls Tryz.prog 82 #[.slice A n cap] w fun e w' => e = .returned (.tuple #[]) ∧ Strs base w' A n cap (l.mergeSort leB) ∧ Only (fun q => base ≤ q) w w' := by
  rcases h.own.2 with ⟨hnil, h0⟩ | ⟨g, cap', cur, hv, hbase, hb, h1, h2, h3, h4⟩
  · have hl : l = [] := List.eq_nil_of_length_eq_zero (by rw [h.row.1, h0])
    subst hl
    cases hnil
    refine (Any.slices_Sort_string_none sortLays none 0 w).mono ?_
    rintro e w' ⟨rfl, rfl⟩
    exact ⟨rfl, by simpa using h, Only.refl _ _⟩
  · cases hv
    have hlen := h.row.1
    rw [flat_strC] at h4
    have hH : Holds encStr w g 0 l.toArray := holds_of_block hb (by rw [hlen]; simpa using h4)
    have hgl : g < w.heap.size := (Array.getElem?_eq_some_iff.1 hb).1
    have hs := Any.slices_Sort_string sortLays g 0 cap l w hH hgl (by omega)
    rw [hlen] at hs
    refine hs.mono ?_
    rintro e w' ⟨rfl, nn, os, rfl⟩
    have ho := ownsRow_sorted (n := nn) (os := os) (base := base) (cap := cap) (ss := l) (ts := l.mergeSort leB) (by simp) hbase hb (by rw [hlen]; exact h1) h2 h3
    rw [hlen, ← flat_strC] at ho
    obtain ⟨A', c', he, hG⟩ := GotR.of_own strC_len ho (by simp [hlen])
    cases he
    exact ⟨rfl, hG, Only.of_grown (grownBy_sorted _) (fun k e _ => by cases e; exact hbase)⟩

/-- Does a key begin so? -/
def preB (p k : List UInt8) : Bool := decide (k.take p.length = p)

theorem extract_list (s : ByteArray) (n : Nat) : (s.extract 0 n).toList = s.data.toList.take n := by
  rw [str_list, ByteArray.data_extract, Array.toList_extract]
  simp

set_option maxHeartbeats 1000000 in
theorem slitHasPrefix_any (s p : ByteArray) (w : World) : Calls Tryz.prog 120 #[.string s, .string p] w fun e w' => e = .returned (.bool (preB p.data.toList s.data.toList)) ∧ w = w' := by
  by_cases h : p.size ≤ s.size
  · have hb : ((s.extract 0 p.size).toList == p.toList) = preB p.data.toList s.data.toList := by
      rw [extract_list, str_list]
      unfold preB
      rw [Array.length_toList, Bool.eq_iff_iff, beq_iff_eq, decide_eq_true_iff]
      rfl
    go_enter Tryz.func120, Tryz.ntmps120
    go_wp2
    go_ret
    exact ⟨by rw [← hb]; rfl, rfl⟩
  · have hb : preB p.data.toList s.data.toList = false := by
      unfold preB
      rw [decide_eq_false_iff_not]
      intro he
      have := congrArg List.length he
      rw [List.length_take] at this
      simp at this
      omega
    rw [hb]
    go_enter Tryz.func120, Tryz.ntmps120
    go_wp2
    go_ret
    exact ⟨rfl, rfl⟩
theorem hasPrefix_any (s p : ByteArray) (w : World) : Calls Tryz.prog 81 #[.string s, .string p] w fun e w' => e = .returned (.bool (preB p.data.toList s.data.toList)) ∧ w = w' := by
  go_enter Tryz.func81, Tryz.ntmps81
  go_wp2_with fail
  refine (slitHasPrefix_any s p _).mono ?_
  rintro e1 w1 ⟨rfl, rfl⟩
  go_wp2
  go_ret
  exact ⟨rfl, rfl⟩

/-! ### In order -/
theorem before_lt : ∀ (a b : List UInt8), bytesBefore a b = true → a < b
  | [], [], h => by cases h
  | [], _ :: _, _ => List.nil_lt_cons _ _
  | _ :: _, [], h => by cases h
  | a :: r, b :: s, h => by
    unfold bytesBefore at h
    simp only [Bool.or_eq_true, Bool.and_eq_true, decide_eq_true_eq, beq_iff_eq] at h
    rw [List.cons_lt_cons_iff]
    rcases h with h | ⟨h1, h2⟩
    · exact Or.inl h
    · exact Or.inr ⟨h1, before_lt r s h2⟩
theorem sorted_keys {α : Type} (M : Al α) (h : M.Pairwise (fun p q => bytesBefore p.1 q.1 = true)) (p : List UInt8 → Bool) (ss : List (List UInt8)) (hs : ss.Perm (M.map (·.1))) : (ss.filter p).mergeSort leB = (M.map (·.1)).filter p := by
  rw [mergeSort_of_perm (hs.filter p)]
  apply List.mergeSort_of_pairwise
  apply List.Pairwise.filter
  rw [List.pairwise_map]
  refine h.imp (fun hab => ?_)
  have := before_lt _ _ hab
  simp only [leB, decide_eq_true_eq]
  exact List.le_of_lt this

/-- append of strings onto a row of the call's own. -/
theorem wpList_append_strs {ops : Array Oper} {rest : List Oper} {q : Oper} {u : Act} {w : World} {S : Nat → Prop} {Q : Exit → Act → World → Prop} (hgd : q.guard = none) (s x : Operand) (hq : q.op = .call { callee := .builtin .append, args := #[s, x], argTypes := #[67, 67] })
    (base : Nat) (B : Option Addr) (m0 c0 : Nat) (zs : List (List UInt8)) (hs : u.eval s = .slice B m0 c0) (hown : Strs base w B m0 c0 zs) (A : Option Addr) (m c : Nat) (l : List (List UInt8))
    (hx : u.eval x = .slice A m c) (hB : RowSl strC 1 w S A m c l) (hn : A = none → m = 0 ∧ c = 0) (hm : m0 + m ≤ 16777216) (hbase : base ≤ w.heap.size)
    (h : ∀ A' c' w', Strs base w' A' (m0 + m) c' (zs ++ l) → w.grownBy w' (Value.slice B m0 c0).ownBlock → (∀ g, (Value.slice B m0 c0).ownBlock = some g → base ≤ g) →
      ((Value.slice A' (m0 + m) c').ownBlock = (Value.slice B m0 c0).ownBlock ∨ (Value.slice A' (m0 + m) c').ownBlock = some w.heap.size) → wpList Tryz.prog ops Q rest (u.put q.dst (.slice A' (m0 + m) c')) w') : wpList Tryz.prog ops Q (q :: rest) u w :=
  wpList_append_rows strC_len strC_one (by decide) 67 9 _ 16 Tryz.underlying67 Tryz.infoStr (by simp [Value.cells]) (by decide) hgd s x hq base B m0 c0 zs hs hown A m c l hx hB hn hm hbase h
theorem str_lit (k : List UInt8) (w : World) : RowSl strC 1 (w.alloc (.cells #[encStr k] 9)) Empty (some ⟨w.heap.size, 0, none⟩) 1 1 [k] :=
  RowSl.lit strC_len w Empty 9 [k] 1 [encStr k] (by simp [strC]) rfl (by decide) (fun h => h)
theorem hasPrefix_enc (k : List UInt8) (p : ByteArray) (w : World) : Calls Tryz.prog 81 #[encStr k, .string p] w fun e w' => e = .returned (.bool (preB p.data.toList k)) ∧ w = w' := by
  have h := hasPrefix_any ⟨k.toArray⟩ p w
  simpa [encStr] using h

/-- The keys that begin so, in order. -/
def keysOf {α : Type} (p : List UInt8) (M : Al α) : List (List UInt8) := (M.map (·.1)).filter (preB p)

set_option maxHeartbeats 4000000 in
theorem keys_any (s mb p c e : Nat) (M : Al Sv) (h : HeadV) (d : Bool) (pre : ByteArray) (w : World) (hS : StoreAt w s mb p c e M h d) (hM : M.length ≤ 1048576) :
    Calls Tryz.prog 43 #[.pointer (some ⟨s, 0, none⟩), .string pre] w fun e1 w' => (∃ A n cap, e1 = .returned (.slice A n cap) ∧ Strs w.heap.size w' A n cap (keysOf pre.data.toList M)) ∧ Below w.heap.size w w' := by
  have s1 : w.cell? ⟨s, 1, none⟩ = some (.map (some mb)) := hS.blk.cell 1
  have hbl : mb < w.heap.size := hS.map.lt
  have Hsrt := Lib.hid hS.map.sorted
  have Hown : Hid (w.ownsMap Tryz.prog 9 standElem mb M.length (smD M)) := Lib.hid hS.map
  have hks := strKeys_sm M
  obtain ⟨D0, hD0⟩ : ∃ D0, D0 = smD M := ⟨_, rfl⟩
  rw [← hD0] at Hown hks
  have Hks := Lib.hid hks
  have hsz : Maps.size D0 ≤ 1048576 := by rw [hD0]; unfold smD; rw [Maps.size_eq, List.length_map]; exact hM
  clear hS hks hD0
  go_enter Tryz.func43, Tryz.ntmps43
  go_wp2_with (at_range; refine wpList_range_own _ rfl _ 102 rfl 9 134 Tryz.standKeyed Tryz.underlying102 _ mb M.length _ rfl Hown.out ?_; intro w0 hrg0 hg0 hs0)
  go_frame
  have Hg0 := Lib.hid hg0
  have Hl0 : Hid (w.heap.size < w0.heap.size) := Lib.hid (by omega)
  clear hg0 hs0
  go_loopw [5] (fun v wr => ∃ (left : Lit → Bool) (cnt : Nat) (ss : List (List UInt8)) (A : Option Addr) (cap : Nat), v = .slice A (ss.filter (preB pre.data.toList)).length cap ∧ wr.ranges Tryz.prog 9 standElem mb w.heap.size M.length D0 left cnt ∧ ss.length + cnt ≤ Maps.size D0 ∧
      Hid (Strs (w.heap.size + 1) wr A (ss.filter (preB pre.data.toList)).length cap (ss.filter (preB pre.data.toList))) ∧ Collected D0 left ss ∧ Hid (Below w.heap.size w wr) ∧ Hid (w.heap.size < wr.heap.size))
    (fun _ wr => wr.rangeLeft mb w.heap.size)
  case atStart =>
    exact ⟨_, _, [], none, 0, rfl, hrg0, by simp, Lib.hid (GotR.nil_ _ _ _ _ _), Collected.start D0, Lib.hid ((Below.refl _ _).grown Hg0.out (Nat.le_refl _) (fun j hj => by cases hj)), Hl0⟩
  case round =>
    obtain ⟨left, cnt, ss, A, cap, rfl, hrg, hcs, HG, hC, HB, HL2⟩ := hrel
    go_wp2_with (at_next; refine wpList_next_ranges _ rfl _ rfl 9 Tryz.standKeyed standElem encStr Sv.v (fun key kl hk => by obtain ⟨x, hx, _⟩ := Maps.keyOf_str Tryz.underlying9 hk; exact ⟨x, hx⟩) (fun v y hv => by obtain ⟨c, rfl, _⟩ := standElem_some hv; exact ⟨c, rfl⟩) mb w.heap.size M.length _ _ _ rfl hrg ?_ ?_)
    · intro hc0 hl0
      have hperm := hC.perm Hown.out Tryz.standKeyed Tryz.underlying9 hl0
      rw [Hks.out] at hperm
      have hsrt := sorted_keys M Hsrt.out (preB pre.data.toList) ss hperm
      have Hsrt2 := Lib.hid hsrt
      have Hperm := Lib.hid hperm
      have hsl : (ss.filter (preB pre.data.toList)).length ≤ 1048576 := by
        have h1 := List.length_filter_le (preB pre.data.toList) ss
        omega
      have Hs := Lib.hid (sort_strs (w.heap.size + 1) A _ cap _ wr HG.out hsl)
      clear hsrt hperm hC hrg hsl
      obtain ⟨L, hL⟩ : ∃ L, L = (ss.filter (preB pre.data.toList)).length := ⟨_, rfl⟩
      rw [← hL] at Hs HG ⊢
      have HLe := Lib.hid hL
      clear hL
      go_wp2_with fail
      refine Hs.out.mono ?_
      rintro e1 w1 ⟨rfl, hg1, ho1⟩
      have hb1 : Below w.heap.size w w1 := HB.out.trans (ho1.below (by have := HL2.out; omega) (fun k h1 h2 => by omega))
      have HE := Lib.hid (And.intro (hg1.lower (base' := w.heap.size) (by omega)) hb1)
      clear hg1 ho1 hb1
      go_wp2_with fail
      go_ret
      refine ⟨⟨A, L, cap, rfl, ?_⟩, HE.out.2⟩
      unfold keysOf
      rw [← Hsrt2.out]
      exact HE.out.1
    · intro x f kl yd yp w2 cnt2 hkey hlk hv hat hrg2 hlt hg2 hs2 hen
      obtain ⟨x', ex, rfl, _⟩ := Maps.keyOf_str Tryz.underlying9 hkey
      obtain rfl : x = x' := encStr_inj ex
      have Hpre := Lib.hid (hasPrefix_enc x pre)
      have hO2 : Only (· = w.heap.size) wr w2 := Only.of_grown hg2 (fun k e _ => by cases e; rfl)
      have HG2 := Lib.hid (HG.out.only strC_len hO2 (fun i h1 _ h2 => by omega))
      have HB2 := Lib.hid (HB.out.trans (hO2.below (B := w.heap.size) HB.out.size (fun k h1 h2 => by omega)))
      have Hl2 : Hid (w.heap.size < w2.heap.size) := Lib.hid (by have := HL2.out; omega)
      have Hs2 := Lib.hid hs2
      have Hstep := Lib.hid (hC.step hlk hat)
      clear hs2 hg2 hO2 hv hkey ex hat hlk
      by_cases hp : preB pre.data.toList x = true
      · have hfl : (ss ++ [x]).filter (preB pre.data.toList) = ss.filter (preB pre.data.toList) ++ [x] := by rw [List.filter_append, List.filter_cons, if_pos hp, List.filter_nil]
        have hfe : (ss.filter (preB pre.data.toList)).length ≤ ss.length := List.length_filter_le _ _
        have Hfl := Lib.hid hfl
        have hstr := str_lit x w2
        have Hstr := Lib.hid hstr
        rw [hp] at Hpre
        obtain ⟨L, hL⟩ : ∃ L, L = (ss.filter (preB pre.data.toList)).length := ⟨_, rfl⟩
        rw [← hL] at HG2 hfe ⊢
        have HLe := Lib.hid hL
        clear hfl hL hp hstr
        go_wp2_with (first
          | (go_at_call 81; refine (Hpre.out _).mono ?_; rintro e3 w3 ⟨rfl, rfl⟩)
          | (at_builtin; refine wpList_append_strs rfl _ _ rfl (w.heap.size + 1) A L cap (ss.filter (preB pre.data.toList)) rfl (HG2.out.alloc strC_len _) _ 1 1 [x] rfl Hstr.out (fun h => by cases h) (by omega) (by have := Hl2.out; simp; omega) ?_; intro A3 c3 w3 hg3 hgr3 hr3 _))
        have hne1 : some mb ≠ (Value.slice A L cap).ownBlock := fun h => by have := hr3 _ h.symm; omega
        have hne2 : some w.heap.size ≠ (Value.slice A L cap).ownBlock := fun h => by have := hr3 _ h.symm; omega
        have hrg3 := (hrg2.alloc (.cells #[encStr x] 9)).kept hgr3 hne1 hne2
        have hB3 := below_gotR (HB2.out.alloc HB2.out.size (.cells #[encStr x] 9)) (by have := Hl2.out; simp; omega) hgr3 hr3 (Nat.le_succ _)
        have hl3 : w.heap.size < w3.heap.size := by
          have h1 := hgr3.size
          have h2 := Hl2.out
          simp at h1
          omega
        refine ⟨⟨_, cnt2, ss ++ [x], A3, c3, ?_, hrg3, by rw [List.length_append]; simp; omega, ?_, Hstep.out, Lib.hid hB3, Lib.hid hl3⟩, ?_⟩
        · rw [Hfl.out, List.length_append, ← HLe.out]
          rfl
        · rw [Hfl.out, List.length_append, ← HLe.out]
          exact Lib.hid hg3
        · rw [hrg3.left_eq, hrg.left_eq]
          exact hlt
      · have hfl : (ss ++ [x]).filter (preB pre.data.toList) = ss.filter (preB pre.data.toList) := by rw [List.filter_append, List.filter_cons, if_neg hp, List.filter_nil, List.append_nil]
        have Hfl := Lib.hid hfl
        have hp2 : preB pre.data.toList x = false := by simpa using hp
        rw [hp2] at Hpre
        clear hfl hp hp2
        go_wp2_with (go_at_call 81; refine (Hpre.out _).mono ?_; rintro e3 w3 ⟨rfl, rfl⟩)
        go_roundw
        case rel => exact ⟨_, cnt2, ss ++ [x], A, cap, by rw [Hfl.out], hrg2, by rw [List.length_append]; simp; omega, by rw [Hfl.out]; exact HG2, Hstep.out, HB2, Hl2⟩
        case measure =>
          rw [hrg2.left_eq, hrg.left_eq]
          exact hlt

end Go.Proofs.YtnhfmcijadficaaGreatDoor
