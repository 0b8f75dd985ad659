/-
  The chapter's example. Condition: one cell of the library's table is as its initialiser lays it.
-/
import Derived.Test.YtobklbangjjocaaDoorMForm
import Derived.Test.YtobklbangjjocaaDoorMCut
set_option linter.unusedSimpArgs false
set_option linter.unusedVariables false
set_option maxRecDepth 100000
namespace Go.Proofs.YtobklbangjjocaaDoor
open Go.RowKit

theorem text_known (w : World) (hz : Tz w) : Calls Tryd.prog 8 #[.int .i64 420] w fun e w' => e = .returned (.string ⟨#[48, 54, 52, 52]⟩) ∧ Below w.heap.size w w' := text_any w hz 420
theorem can_of (w : World) (k m o g who group : Int) (A : Option Addr) (n c : Nat) (ws : List Int) (hd : NIn w A n c ws) (b : Bool) (hb : canB k m o g who group ws = b) :
    Calls Tryd.prog 15 #[stv k m o g, .int .i64 who, .int .i64 group, .slice A n c] w fun e w' => e = .returned (.bool b) ∧ Below w.heap.size w w' := by
  have := can_any w k m o g who group A n c ws hd
  rwa [hb] at this
theorem known1 : canB 0 420 5 0 5 9 [2] = true := by decide +kernel
theorem known2 : canB 0 420 5 0 6 9 [4] = true := by decide +kernel
theorem known3 : canB 0 420 5 0 6 9 [2] = false := by decide +kernel
theorem known4 : canB 0 420 5 0 0 9 [2, 1] = true := by decide +kernel
theorem mknown_walk (w : World) (hz : Tz w) : Calls Tryd.prog 12 #[] w fun e w' => e = .returned (.bool true) ∧ Below w.heap.size w w' := by
  have HB := Lib.hid (And.intro (mnew w (.cells #[.int .i64 0, .int .i64 420, .int .i64 5, .int .i64 0] 32)) hz)
  clear hz
  go_enter Tryd.func12, Tryd.ntmps12
  go_wp2_with fail
  with_reducible refine (text_known _ (HB.out.2.below HB.out.1)).mono ?_
  rintro e w1 ⟨rfl, h1⟩
  have X1 := (Box.new w 32 0 420 5 0).below h1
  obtain ⟨e0, e1, e2, e3⟩ := X1.cells
  have H1 := Lib.hid (And.intro (mthen HB.out.1 h1) X1)
  clear h1 X1
  go_wp2_with fail
  with_reducible refine (can_of _ 0 420 5 0 5 9 _ _ _ [2] (NIn.one w1 _ 2 (by omega) (by omega)) true known1).mono ?_
  rintro e w2 ⟨rfl, h2⟩
  have X2 := (H1.out.2.below (mnew _ _)).below h2
  clear e0 e1 e2 e3
  obtain ⟨e0, e1, e2, e3⟩ := X2.cells
  have H2 := Lib.hid (And.intro (mthen H1.out.1 (mthen (mnew _ _) h2)) X2)
  clear h2 X2
  go_wp2_with fail
  with_reducible refine (can_of _ 0 420 5 0 6 9 _ _ _ [4] (NIn.one w2 _ 4 (by omega) (by omega)) true known2).mono ?_
  rintro e w3 ⟨rfl, h3⟩
  have X3 := (H2.out.2.below (mnew _ _)).below h3
  clear e0 e1 e2 e3
  obtain ⟨e0, e1, e2, e3⟩ := X3.cells
  have H3 := Lib.hid (And.intro (mthen H2.out.1 (mthen (mnew _ _) h3)) X3)
  clear h3 X3
  go_wp2_with fail
  with_reducible refine (can_of _ 0 420 5 0 6 9 _ _ _ [2] (NIn.one w3 _ 2 (by omega) (by omega)) false known3).mono ?_
  rintro e w4 ⟨rfl, h4⟩
  have X4 := (H3.out.2.below (mnew _ _)).below h4
  clear e0 e1 e2 e3
  obtain ⟨e0, e1, e2, e3⟩ := X4.cells
  have H4 := Lib.hid (And.intro (mthen H3.out.1 (mthen (mnew _ _) h4)) X4)
  clear h4 X4
  go_wp2_with fail
  with_reducible refine (can_of _ 0 420 5 0 0 9 _ _ _ [2, 1] (NIn.two w4 _ 2 1 (by omega) (by omega) (by omega) (by omega)) true known4).mono ?_
  rintro e w5 ⟨rfl, h5⟩
  have H5 := Lib.hid (mthen H4.out.1 (mthen (mnew _ _) h5))
  clear h5 e0 e1 e2 e3
  go_wp2_with fail
  go_ret
  exact ⟨rfl, H5.out⟩
end Go.Proofs.YtobklbangjjocaaDoor
