/- What a call leaves alone by type: blocks whose type isn't in E stay. Plain lemmas. -/
import Derived.Test.YtinkjeifkjfkgaaBy
namespace Go.Proofs.Ytinkjeifkjfkgaa
set_option maxRecDepth 100000
open Go.RowKit

/-- Blocks of all other types stay. -/
def Keep (E : TypeId → Prop) (w w' : World) : Prop := ∀ q t cs, Blk w q t cs → ¬ E t → Blk w' q t cs
theorem Keep.trans {E : TypeId → Prop} {a b c : World} (h : Keep E a b) (k : Keep E b c) : Keep E a c := fun q t cs h1 h2 => k q t cs (h q t cs h1 h2) h2
theorem Keep.mono {E F : TypeId → Prop} {a b : World} (h : Keep E a b) (k : ∀ t, E t → F t) : Keep F a b := fun q t cs h1 h2 => h q t cs h1 (fun h3 => h2 (k t h3))
theorem Keep.of_empty {E : TypeId → Prop} {a b : World} (h : Only Empty a b) : Keep E a b := fun _ _ _ h1 _ => h.blk h1 (fun h => h)
theorem Keep.of_block {E : TypeId → Prop} {a b : World} {q : Nat} {t : TypeId} {cs : Array Value} (hB : Blk a q t cs) (hE : E t) (h : Only (· = q) a b) : Keep E a b := fun _ _ _ h1 h2 =>
  h.blk h1 (fun e => Blk.ne_ h1 hB (fun e2 => h2 (e2 ▸ hE)) e)

end Go.Proofs.Ytinkjeifkjfkgaa
