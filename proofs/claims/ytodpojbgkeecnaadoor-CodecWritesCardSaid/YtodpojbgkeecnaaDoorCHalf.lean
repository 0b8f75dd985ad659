/-
  Between the two stores of a push. A plain definition.
-/
import Derived.Test.YtodpojbgkeecnaaDoorCBuildPre
set_option linter.unusedSimpArgs false
set_option linter.unusedVariables false
namespace Go.Proofs.YtodpojbgkeecnaaDoor
open Go.RowKit

/-- The header is stored, the element is not yet. -/
def Half (w : World) (gs cs gg cap : Nat) (ini : List Fr) (f : Fr) (t : T) (c0 c1 c2 c3 : Value) (wx : World) : Prop := ∃ W w4 : World, PushedAll w W w4 gs cs gg cap ini f t zeroV ∧ In W (fun g => w.heap.size + 1 ≤ g ∧ ¬ Live (.slice (some ⟨gs, 0, none⟩) (ini.length + 1) cs) (ini ++ [f]) g) t (.agg #[c0, c1, c2, c3]) ∧ wx = w4.setCell ⟨gs, ini.length * 4 + 3, none⟩ (.slice (some ⟨gg, 0, none⟩) (f.l.length + 1) cap)

end Go.Proofs.YtodpojbgkeecnaaDoor
