/-
  Number and Of. No condition.
-/
import Derived.Test.YtobklbangjjocaaDoorMCut
import Derived.IntWalk
set_option linter.unusedSimpArgs false
set_option linter.unusedVariables false
set_option maxRecDepth 100000
namespace Go.Proofs.YtobklbangjjocaaDoor
open Go.RowKit

/-- A stat's number. -/
def numOf (k m o g : Int) : Int := if chk k m o g = 0 then numS k m o g else 0
set_option maxHeartbeats 1000000 in
theorem number_any (w : World) (k m o g : Int) : Calls Tryd.prog 21 #[stv k m o g] w fun e w' => e = .returned (.int .i64 (numOf k m o g)) ∧ Below w.heap.size w w' := by
  have HB := Lib.hid (mnew w (.cells #[.int .i64 k, .int .i64 m, .int .i64 o, .int .i64 g] 32))
  by_cases hc : chk k m o g = 0
  · have e : numOf k m o g = numS k m o g := if_pos hc
    rw [e]
    clear e
    obtain ⟨⟨k0, k1⟩, ⟨m0, m1⟩, ⟨o0, o1⟩, g0, g1⟩ := chk_zero hc
    have HC := Lib.hid hc
    clear hc
    go_enter Tryd.func21, Tryd.ntmps21
    go_wp2_with fail
    with_reducible refine (check_ok _ HC.out).mono ?_
    rintro e w1 ⟨rfl, h1⟩
    obtain ⟨e0, e1, e2, e3⟩ := ((Box.new w 32 _ m o g).below h1).cells
    have H1 := Lib.hid (mthen HB.out h1)
    clear h1
    go_wp2_with fail
    go_ret
    exact ⟨ret_num (num_eq HC.out), H1.out⟩
  · have e : numOf k m o g = 0 := if_neg hc
    rw [e]
    clear e
    have HC := Lib.hid hc
    clear hc
    go_enter Tryd.func21, Tryd.ntmps21
    go_wp2_with fail
    with_reducible refine (check_bad _ HC.out).mono ?_
    rintro e w1 ⟨z, rfl, hz, h1⟩
    obtain ⟨q1, q2, q3⟩ := eqB_false (show ¬ z = 0 by rw [hz]; exact HC.out)
    have H1 := Lib.hid (mthen HB.out h1)
    clear h1 hz
    go_wp2_with fail
    go_ret
    exact ⟨rfl, H1.out⟩
/-- Is a number a stat's? -/
def numB (n : Int) : Prop := chk (n / 17592186044416) (n / 4294967296 % 4096) (n / 65536 % 65536) (n % 65536) = 0
set_option maxHeartbeats 1000000 in
theorem numOf_yes (w : World) (n : Int) (hn : numB n) : Calls Tryd.prog 22 #[.int .i64 n] w fun e w' => e = .returned (.tuple #[stv (n / 17592186044416) (n / 4294967296 % 4096) (n / 65536 % 65536) (n % 65536), .int .i64 0]) ∧ Below w.heap.size w w' := by
  have m1 := mask12 (n / 4294967296)
  have m2 := mask16 (n / 65536)
  have m3 := mask16 n
  have HC := Lib.hid hn
  have b0 : Below w.heap.size w ((w.alloc (.cells #[.int .i64 0, .int .i64 0, .int .i64 0, .int .i64 0] 32)).alloc (.cells #[.int .i64 (n / 17592186044416), .int .i64 (n / 4294967296 % 4096), .int .i64 (n / 65536 % 65536), .int .i64 (n % 65536)] 32)) := ((Below.refl _ _).alloc (Nat.le_refl _) _).alloc (by simp) _
  have X0 := (Box.new w 32 0 0 0 0).below (mnew _ (.cells #[.int .i64 (n / 17592186044416), .int .i64 (n / 4294967296 % 4096), .int .i64 (n / 65536 % 65536), .int .i64 (n % 65536)] 32))
  have Y0 := Box.new (w.alloc (.cells #[.int .i64 0, .int .i64 0, .int .i64 0, .int .i64 0] 32)) 32 (n / 17592186044416) (n / 4294967296 % 4096) (n / 65536 % 65536) (n % 65536)
  rw [World.size_alloc] at Y0
  have H0 := Lib.hid (And.intro b0 (And.intro X0 Y0))
  clear hn b0 X0 Y0
  go_enter Tryd.func22, Tryd.ntmps22
  go_wp2_with fail
  refine (check_ok _ HC.out).mono ?_
  rintro e w1 ⟨rfl, h1⟩
  obtain ⟨e0, e1, e2, e3⟩ := (H0.out.2.1.below h1).cells
  obtain ⟨f0, f1, f2, f3⟩ := (H0.out.2.1.below h1).free
  obtain ⟨g0, g1, g2, g3⟩ := (H0.out.2.2.below h1).cells
  have H1 := Lib.hid (mthen H0.out.1 h1)
  clear h1
  go_wp2_with fail
  refine bodyPost_ret (v := .tuple #[stv (n / 17592186044416) (n / 4294967296 % 4096) (n / 65536 % 65536) (n % 65536), .int .i64 0]) (by simp [results, Tryd.results22, go_sem, e0, e1, e2, e3]) rfl ⟨rfl, ?_⟩
  exact (((H1.out.setCell (Nat.le_refl _) _).setCell (Nat.le_refl _) _).setCell (Nat.le_refl _) _).setCell (Nat.le_refl _) _
set_option maxHeartbeats 1000000 in
theorem numOf_no (w : World) (n : Int) (hn : ¬ numB n) : Calls Tryd.prog 22 #[.int .i64 n] w fun e w' => e = .returned (.tuple #[stv 0 0 0 0, .int .i64 3]) ∧ Below w.heap.size w w' := by
  have m1 := mask12 (n / 4294967296)
  have m2 := mask16 (n / 65536)
  have m3 := mask16 n
  have HC : Hid (chk (n / 17592186044416) (n / 4294967296 % 4096) (n / 65536 % 65536) (n % 65536) ≠ 0) := Lib.hid hn
  have b0 : Below w.heap.size w ((w.alloc (.cells #[.int .i64 0, .int .i64 0, .int .i64 0, .int .i64 0] 32)).alloc (.cells #[.int .i64 (n / 17592186044416), .int .i64 (n / 4294967296 % 4096), .int .i64 (n / 65536 % 65536), .int .i64 (n % 65536)] 32)) := ((Below.refl _ _).alloc (Nat.le_refl _) _).alloc (by simp) _
  have X0 := (Box.new w 32 0 0 0 0).below (mnew _ (.cells #[.int .i64 (n / 17592186044416), .int .i64 (n / 4294967296 % 4096), .int .i64 (n / 65536 % 65536), .int .i64 (n % 65536)] 32))
  have H0 := Lib.hid (And.intro b0 X0)
  clear hn b0 X0
  go_enter Tryd.func22, Tryd.ntmps22
  go_wp2_with fail
  refine (check_bad _ HC.out).mono ?_
  rintro e w1 ⟨z, rfl, hz, h1⟩
  obtain ⟨q1, q2, q3⟩ := eqB_false (show ¬ z = 0 by rw [hz]; exact HC.out)
  obtain ⟨e0, e1, e2, e3⟩ := (H0.out.2.below h1).cells
  obtain ⟨f0, f1, f2, f3⟩ := (H0.out.2.below h1).free
  have H1 := Lib.hid (mthen H0.out.1 h1)
  clear h1 hz
  go_wp2_with fail
  refine bodyPost_ret (v := .tuple #[stv 0 0 0 0, .int .i64 3]) (by simp [results, Tryd.results22, go_sem, e0, e1, e2, e3]) rfl ⟨rfl, ?_⟩
  exact (((H1.out.setCell (Nat.le_refl _) _).setCell (Nat.le_refl _) _).setCell (Nat.le_refl _) _).setCell (Nat.le_refl _) _
end Go.Proofs.YtobklbangjjocaaDoor
