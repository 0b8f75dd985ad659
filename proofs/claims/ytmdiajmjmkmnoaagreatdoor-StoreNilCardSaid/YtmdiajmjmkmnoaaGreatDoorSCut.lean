/-
  What the law hands over: texts cut, a package there. Conditions: the revisions lie in memory.
-/
import Derived.Test.YtmdiajmjmkmnoaaGreatDoorSKnown
import Derived.Test.YtmdiajmjmkmnoaaGreatDoorRWords
set_option linter.unusedSimpArgs false
set_option linter.unusedVariables false
set_option maxRecDepth 100000
namespace Go.Proofs.YtmdiajmjmkmnoaaGreatDoor
open Go.RowKit

/-- A text of at most forty bytes. -/
def cutS (t : ByteArray) : ByteArray := if 40 < t.size then t.extract 0 40 else t
theorem cut10_any (w : World) (t : ByteArray) : Calls Tryz.prog 28 #[.string t] w fun e w' => e = .returned (.string (cutS t)) ∧ w' = w := by
  by_cases h : 40 < t.size
  · have hc : cutS t = t.extract 0 40 := by unfold cutS; rw [if_pos h]
    rw [hc]
    go_enter Tryz.func28, Tryz.ntmps28
    go_wp2_with fail
    all_goals first
      | (go_ret
         exact ⟨rfl, rfl⟩)
      | (exfalso; omega)
  · have hc : cutS t = t := by unfold cutS; rw [if_neg h]
    rw [hc]
    go_enter Tryz.func28, Tryz.ntmps28
    go_wp2_with fail
    all_goals first
      | (go_ret
         exact ⟨rfl, rfl⟩)
      | (exfalso; omega)
end Go.Proofs.YtmdiajmjmkmnoaaGreatDoor
