/-
  What every row of this seat shares: its list gives the constants; a world for the witness. No condition of its own.
-/
import Derived.Test.YtkblpcegdfhmoaaDoorCards
import Derived.Test.YtkblpcegdfhmoaaDoorTie
import Derived.Test.YtkblpcegdfhmoaaDoorDKernel
import Derived.WalkKit
import Derived.ProofKit
import Derived.OpenShut
import Derived.ShutString
import Derived.ChangeOld
import Derived.Below
import Derived.Deep.DeepHandedRow
import Derived.Lib.LaidTab
namespace Go.Proofs.YtkblpcegdfhmoaaDoor
open Go.ChangeShapes Go.WideShapes Go.ChangeAt Go.RowKit

theorem own : ownKnob Tryd.prog.godebug = none := by kernel_rfl
theorem laidOut : laidOutB Tryd.prog = true := by kernel_rfl
theorem gTab : Tryd.prog.globalNamed "creel/digest.roots" = some 0 := by kernel_rfl
theorem gTabType : (Tryd.prog.globals[0]?).map (·.type) = some 74 := by kernel_rfl
theorem cells74 : Tryd.prog.cellsOf 74 = 64 := by kernel_rfl
theorem cells39 : Tryd.prog.cellsOf 39 = 1 := by kernel_rfl

theorem table {W : World} (h : laidMetH Tryd.prog [("creel/digest.roots", Rows.laid_creel_digest_roots)] W) : Lib.TabIs Tryd.prog W "creel/digest.roots" .u32 rootsZ :=
  Lib.tabIs_of_head (rest := []) gTab gTabType Tryd.underlying74 Tryd.underlying39 cells39 cells74 h
theorem roots_nat : ∀ i : Nat, i < 64 → rootsZ.getD i 0 = nw (Ks.getD i 0) := by decide +kernel
theorem roots_of {W : World} (h : laidMetH Tryd.prog [("creel/digest.roots", Rows.laid_creel_digest_roots)] W) : Roots Ks W := by
  intro i hi
  have := (table h).cell gTab i hi
  rw [roots_nat i hi] at this
  exact this

/-- A world for the witness: the settled one, the variable (block 0) holding what its initialiser lays. -/
noncomputable def laidWorld (os : Os) : World :=
  { World.holding Tryd.prog os ⟨#[], #[], []⟩ with heap := (World.holding Tryd.prog os ⟨#[], #[], []⟩).heap.modify 0 fun
      | .cells _ t frozen => .cells (rootsZ.map fun z => Value.int .u32 z).toArray t frozen
      | o => o }

end Go.Proofs.YtkblpcegdfhmoaaDoor
