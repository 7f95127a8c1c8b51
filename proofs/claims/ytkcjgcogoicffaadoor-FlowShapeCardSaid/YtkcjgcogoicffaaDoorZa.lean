/- Classes that go together, as plain data (layer 16): a world's lines, what the program asks of units and what the document asks: one and the same. Nothing of the program. -/
import Derived.Test.YtkcjgcogoicffaaDoorDa
namespace Go.Proofs.YtkcjgcogoicffaaDoor
set_option maxRecDepth 100000

abbrev Bs := List UInt8
/-- A field, a trap, an instruction, a map, a method, a class, with names. -/
structure FdD where
  static : Bool
  name : Bs
  desc : Bs
structure TrD where
  a : Int
  b : Int
  c : Int
  cls : Bs
structure InD where
  op : UInt8
  n : Int
  m : Int
  cls : Bs
  name : Bs
  desc : Bs
  text : Bs
structure MpD where
  at_ : Int
  locals : List Bs
  stack : List Bs
structure MeD where
  static : Bool
  name : Bs
  desc : Bs
  stack : Int
  locals : Int
  code : List InD
  traps : List TrD
  maps : List MpD
structure UnD where
  name : Bs
  super : Bs
  fields : List FdD
  meths : List MeD

def findU (w : List UnD) (c : Bs) : Option UnD := w.find? (fun u => u.name == c)
/-- A class, its superclass, and so on: so many at most. -/
def lineU (w : List UnD) : Nat → Bs → List UnD
  | 0, _ => []
  | k + 1, c => match findU w c with
    | none => []
    | some u => u :: lineU w k u.super
/-- Just k classes stand in a class's line. -/
def endsIn (w : List UnD) : Nat → Bs → Prop
  | 0, c => findU w c = none
  | k + 1, c => ∃ u, findU w c = some u ∧ endsIn w k u.super

section
variable {w : List UnD}
theorem findU_name {c : Bs} {u : UnD} (h : findU w c = some u) : u.name = c ∧ u ∈ w := by
  unfold findU at h
  exact ⟨by simpa using List.find?_some h, List.mem_of_find?_eq_some h⟩
theorem findU_mem (hn : (w.map (·.name)).Nodup) {u : UnD} (hu : u ∈ w) : findU w u.name = some u := by
  unfold findU
  induction w with
  | nil => cases hu
  | cons v r ih =>
    rw [List.map_cons, List.nodup_cons] at hn
    rw [List.find?_cons]
    rcases List.mem_cons.1 hu with rfl | hr
    · simp
    · have hne : v.name ≠ u.name := fun e => hn.1 (e ▸ List.mem_map_of_mem hr)
      rw [show (v.name == u.name) = false by simpa using hne]
      exact ih hn.2 hr
theorem findU_some {c : Bs} (h : c ∈ w.map (·.name)) : ∃ u, findU w c = some u := by
  obtain ⟨u, hu, e⟩ := List.mem_map.1 h
  cases hf : findU w c with
  | some v => exact ⟨v, rfl⟩
  | none =>
    unfold findU at hf
    have := List.find?_eq_none.1 hf u hu
    simp [e] at this
theorem findU_none {c : Bs} (h : findU w c = none) : c ∉ w.map (·.name) := fun h1 => by
  obtain ⟨u, hu⟩ := findU_some h1
  rw [h] at hu
  cases hu

theorem line_succ (k : Nat) (c : Bs) : lineU w (k + 1) c = match findU w c with | none => [] | some u => u :: lineU w k u.super := rfl
theorem line_none {c : Bs} (h : findU w c = none) : ∀ k, lineU w k c = []
  | 0 => rfl
  | k + 1 => by rw [line_succ, h]
theorem line_some {c : Bs} {u : UnD} (h : findU w c = some u) (k : Nat) : lineU w (k + 1) c = u :: lineU w k u.super := by rw [line_succ, h]
theorem line_ends : ∀ {k : Nat} {c : Bs}, endsIn w k c → ∀ n, k ≤ n → lineU w n c = lineU w k c ∧ (lineU w n c).length = k
  | 0, c, h, n, _ => by rw [line_none h, line_none h]; exact ⟨rfl, rfl⟩
  | k + 1, c, ⟨u, hu, he⟩, n, hn => by
    cases n with
    | zero => omega
    | succ n =>
      obtain ⟨h1, h2⟩ := line_ends he n (by omega)
      rw [line_some hu, line_some hu, h1]
      rw [h1] at h2
      exact ⟨rfl, by simp [h2]⟩
theorem ends_uniq : ∀ {k j : Nat} {c : Bs}, endsIn w k c → endsIn w j c → k = j
  | 0, 0, _, _, _ => rfl
  | 0, j + 1, c, h, ⟨u, hu, _⟩ => by rw [show findU w c = none from h] at hu; cases hu
  | k + 1, 0, c, ⟨u, hu, _⟩, h => by rw [show findU w c = none from h] at hu; cases hu
  | k + 1, j + 1, c, ⟨u, hu, h⟩, ⟨v, hv, h'⟩ => by
    rw [hu] at hv
    cases hv
    rw [ends_uniq h h']
/-- A line that isn't cut off ends. -/
theorem ends_of_short : ∀ {n : Nat} {c : Bs}, (lineU w (n + 1) c).length ≤ n → ∃ k, k ≤ n ∧ endsIn w k c
  | n, c, h => by
    cases hf : findU w c with
    | none => exact ⟨0, Nat.zero_le _, hf⟩
    | some u =>
      rw [line_some hf, List.length_cons] at h
      cases n with
      | zero => omega
      | succ n =>
        obtain ⟨k, hk, he⟩ := ends_of_short (n := n) (c := u.super) (by omega)
        exact ⟨k + 1, by omega, u, hf, he⟩
theorem line_le : ∀ (n : Nat) (c : Bs), (lineU w n c).length ≤ n
  | 0, _ => by simp [lineU]
  | n + 1, c => by
    cases hf : findU w c with
    | none => rw [line_none hf]; simp
    | some u => rw [line_some hf, List.length_cons]; have := line_le n u.super; omega
theorem line_mem : ∀ {n : Nat} {c : Bs} {v : UnD}, v ∈ lineU w n c → v ∈ w ∧ findU w v.name = some v
  | 0, _, _, h => by cases h
  | n + 1, c, v, h => by
    cases hf : findU w c with
    | none => rw [line_none hf] at h; cases h
    | some u =>
      rw [line_some hf] at h
      rcases List.mem_cons.1 h with rfl | h
      · have := findU_name hf
        exact ⟨this.2, by rw [this.1]; exact hf⟩
      · exact line_mem h
theorem line_mono : ∀ {n m : Nat} {c : Bs} {v : UnD}, n ≤ m → v ∈ lineU w n c → v ∈ lineU w m c
  | 0, _, _, _, _, h => by cases h
  | n + 1, m, c, v, hm, h => by
    cases m with
    | zero => omega
    | succ m =>
      cases hf : findU w c with
      | none => rw [line_none hf] at h; cases h
      | some u =>
        rw [line_some hf] at h ⊢
        rcases List.mem_cons.1 h with rfl | h
        · exact List.mem_cons_self
        · exact List.mem_cons_of_mem _ (line_mono (by omega) h)
/-- What stands in a line has its own line there. -/
theorem line_at : ∀ {k : Nat} {c : Bs} {v : UnD}, endsIn w k c → v ∈ lineU w k c → ∃ pre j, j ≤ k ∧ endsIn w j v.name ∧ lineU w k c = pre ++ lineU w j v.name ∧ (pre ≠ [] → v.name ≠ c)
  | 0, c, v, _, h => by cases h
  | k + 1, c, v, he, h => by
    obtain ⟨u, hu, he'⟩ := he
    have hun := findU_name hu
    rw [line_some hu] at h
    by_cases hv : v.name = c
    · refine ⟨[], k + 1, Nat.le_refl _, ?_, ?_, fun h => absurd rfl h⟩
      · rw [hv]; exact ⟨u, hu, he'⟩
      · rw [hv]; rfl
    · rcases List.mem_cons.1 h with rfl | h
      · exact absurd hun.1 hv
      · obtain ⟨pre, j, hj, h1, h2, _⟩ := line_at he' h
        exact ⟨u :: pre, j, by omega, h1, by rw [line_some hu, h2]; rfl, fun _ => hv⟩
/-- No class stands twice in a line that ends. -/
theorem line_nodup : ∀ {k : Nat} {c : Bs}, endsIn w k c → ((lineU w k c).map (·.name)).Nodup
  | 0, _, _ => by simp [lineU]
  | k + 1, c, he => by
    have he0 := he
    obtain ⟨u, hu, he'⟩ := he
    rw [line_some hu, List.map_cons, List.nodup_cons]
    refine ⟨fun h => ?_, line_nodup he'⟩
    obtain ⟨v, hv, e⟩ := List.mem_map.1 h
    obtain ⟨pre, j, hj, h1, _⟩ := line_at he' hv
    rw [e, (findU_name hu).1] at h1
    have := ends_uniq he0 h1
    omega
end

/-- More places than there are names: one stands twice. -/
theorem nodup_le : ∀ {l m : List Bs}, l.Nodup → (∀ x ∈ l, x ∈ m) → l.length ≤ m.length
  | [], _, _, _ => Nat.zero_le _
  | x :: l, m, hn, h => by
    rw [List.nodup_cons] at hn
    have hx := h x List.mem_cons_self
    have := nodup_le (l := l) (m := m.erase x) hn.2 (fun y hy => (List.mem_erase_of_ne (by rintro rfl; exact hn.1 hy)).2 (h y (List.mem_cons_of_mem _ hy)))
    rw [List.length_erase_of_mem hx] at this
    have := List.length_pos_of_mem hx
    simp
    omega

end Go.Proofs.YtkcjgcogoicffaaDoor
