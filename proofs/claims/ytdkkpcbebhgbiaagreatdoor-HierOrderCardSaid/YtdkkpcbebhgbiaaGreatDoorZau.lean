/- Units as they lie in memory; the maps of a world of hier. -/
import Derived.Test.YtdkkpcbebhgbiaaGreatDoorZar
import Derived.Test.YtdkkpcbebhgbiaaGreatDoorZaa
import Derived.Test.YtdkkpcbebhgbiaaGreatDoorZat
import Derived.Test.YtdkkpcbebhgbiaaGreatDoorZak
namespace Go.Proofs.YtdkkpcbebhgbiaaGreatDoor
set_option maxRecDepth 100000
open Go.RowKit
open Go.Maps (Keyed)

/-- How keys and elements of a world's maps lie. -/
def strV (s : { s : Bs // s.length ≤ 1000000 }) : Value := .string (strB s.1)
def clsV (s : Bs) : Value := .agg #[.string (strB s)]
abbrev Key3 := Bs × Bs × Bs
def memKV (q : Key3) : Value := .agg #[.string (strB q.1), .string (strB q.2.1), .string (strB q.2.2)]
def memV (q : Bs × Bool) : Value := .agg #[.string (strB q.1), .bool q.2]
def voidV (_ : Unit) : Value := .agg #[]
theorem strB_inj {a b : Bs} (h : strB a = strB b) : a = b := by
  have := congrArg (fun s : ByteArray => s.data.toList) h
  simpa [strB] using this
def strKV (s : Bs) : Value := .string (strB s)
theorem strKV_inj : ∀ a b, strKV a = strKV b → a = b := fun a b h => strB_inj (by simpa [strKV] using h)
theorem memKV_inj : ∀ a b, memKV a = memKV b → a = b := fun a b h => by
  simp [memKV] at h
  exact Prod.ext (strB_inj h.1) (Prod.ext (strB_inj h.2.1) (strB_inj h.2.2))

theorem Tryz.strKeyed : Keyed Tryz.prog 9 := Go.Maps.string_keyed Tryz.underlying9
theorem Tryz.memKeyed : Keyed Tryz.prog 153 := Keyed.of_law (deep_law_laid (by kernel_rfl) (m := 3) (by omega) (of_decide_eq_true (by kernel_rfl)) (by kernel_rfl) (by kernel_rfl))
theorem str_key (s : Bs) (h : s.length ≤ 1000000) : keyOf Tryz.prog 9 (strKV s) = some (.string (strB s).data.toList) :=
  WideMaps.keyOf_string_mk Tryz.underlying9 (by rw [strB_size]; unfold maxLen; omega)
theorem mem_key (q : Key3) (h1 : q.1.length ≤ 1000000) (h2 : q.2.1.length ≤ 1000000) (h3 : q.2.2.length ≤ 1000000) : ∃ kl, keyOf Tryz.prog 153 (memKV q) = some kl := by
  unfold keyOf
  have e1 : Tryz.prog.keyType 153 = true := by kernel_rfl
  have e2 : Tryz.prog.cellsOf 153 = 3 := by kernel_rfl
  have e4 : Tryz.prog.cellsOf 9 = 1 := by kernel_rfl
  have e3 : ∃ d, Tryz.prog.types.size = d + 1 := ⟨Tryz.prog.types.size - 1, by have : 0 < Tryz.prog.types.size := of_decide_eq_true (by kernel_rfl); omega⟩
  obtain ⟨d, e3⟩ := e3
  have z : ∀ (x : Bs), x.length ≤ 1000000 → (strB x).size ≤ maxLen := fun x hx => by rw [strB_size]; unfold maxLen; omega
  rw [Tryz.underlying153]
  simp [e1, Value.formed, memKV, Tryz.underlying153, e2, e3]
  obtain ⟨d', e5⟩ : ∃ d', d = d' + 1 := ⟨d - 1, by have : 1 < Tryz.prog.types.size := of_decide_eq_true (by kernel_rfl); omega⟩
  subst e5
  simp [Program.keyLits, Tryz.underlying153, Tryz.underlying9, e2, e4, Value.cells, z _ h1, z _ h2, z _ h3]

end Go.Proofs.YtdkkpcbebhgbiaaGreatDoor
