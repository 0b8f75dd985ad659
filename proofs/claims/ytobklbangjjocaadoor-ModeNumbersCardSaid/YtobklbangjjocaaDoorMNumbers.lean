/-
  ModeNumbers, walked: for every stat and every number it returns true. Condition: one cell of the library's table is as its initialiser lays it.
-/
import Derived.Test.YtobklbangjjocaaDoorMNum
import Derived.Test.YtobklbangjjocaaDoorMKnown
import Derived.Laws.StructEq
set_option linter.unusedSimpArgs false
set_option linter.unusedVariables false
set_option maxRecDepth 100000
namespace Go.Proofs.YtobklbangjjocaaDoor
open Go.RowKit

theorem number_ok (w : World) {k m o g : Int} (h : chk k m o g = 0) : Calls Tryd.prog 21 #[stv k m o g] w fun e w' => e = .returned (.int .i64 (k * 17592186044416 + m * 4294967296 + o * 65536 + g)) ∧ Below w.heap.size w w' := by
  have := number_any w k m o g
  rwa [show numOf k m o g = (k * 17592186044416 + m * 4294967296 + o * 65536 + g) from if_pos h] at this
theorem number_bad (w : World) {k m o g : Int} (h : chk k m o g ≠ 0) : Calls Tryd.prog 21 #[stv k m o g] w fun e w' => e = .returned (.int .i64 0) ∧ Below w.heap.size w w' := by
  have := number_any w k m o g
  rwa [show numOf k m o g = 0 from if_neg h] at this
theorem number_parts (w : World) {n : Int} (h : numB n) : Calls Tryd.prog 21 #[stv (n / 17592186044416) (n / 4294967296 % 4096) (n / 65536 % 65536) (n % 65536)] w fun e w' => e = .returned (.int .i64 n) ∧ Below w.heap.size w w' := by
  have := number_any w (n / 17592186044416) (n / 4294967296 % 4096) (n / 65536 % 65536) (n % 65536)
  rw [show numOf (n / 17592186044416) (n / 4294967296 % 4096) (n / 65536 % 65536) (n % 65536) = n from (if_pos h).trans (num_of_parts n)] at this
  exact this
theorem rcheck_parts (w : World) {n : Int} (h : numB n) : Calls Tryd.prog 17 #[stv (n / 17592186044416) (n / 4294967296 % 4096) (n / 65536 % 65536) (n % 65536)] w fun e w' => e = .returned (.int .i64 0) ∧ Below w.heap.size w w' := rcheck_ok w h
theorem numB_num {k m o g : Int} (h : chk k m o g = 0) : numB (k * 17592186044416 + m * 4294967296 + o * 65536 + g) := by
  obtain ⟨a, b, c, d⟩ := parts_of_num h
  unfold numB
  show chk (kOf (numS k m o g)) (mOf (numS k m o g)) (oOf (numS k m o g)) (gOf (numS k m o g)) = 0
  rw [a, b, c, d]
  exact h
theorem numOf_back (w : World) {k m o g : Int} (h : chk k m o g = 0) : Calls Tryd.prog 22 #[.int .i64 (k * 17592186044416 + m * 4294967296 + o * 65536 + g)] w fun e w' => e = .returned (.tuple #[stv k m o g, .int .i64 0]) ∧ Below w.heap.size w w' := by
  have := numOf_yes w (k * 17592186044416 + m * 4294967296 + o * 65536 + g) (numB_num h)
  obtain ⟨a, b, c, d⟩ := parts_of_num h
  change Calls _ _ _ _ (fun e w' => e = .returned (.tuple #[stv (kOf (numS k m o g)) (mOf (numS k m o g)) (oOf (numS k m o g)) (gOf (numS k m o g)), .int .i64 0]) ∧ _) at this
  rw [a, b, c, d] at this
  exact this
set_option maxHeartbeats 4000000 in
theorem numbers_bad_yes (w : World) (hz : Tz w) (k m o g : Int) (n : Int) (hc : chk k m o g ≠ 0) (hn : numB n) : Calls Tryd.prog 5 #[stv k m o g, .int .i64 n] w fun e w' => e = .returned (.bool true) ∧ Below w.heap.size w w' := by
  have H0 := Lib.hid (And.intro (mnew w (.cells #[.int .i64 k, .int .i64 m, .int .i64 o, .int .i64 g] 30)) hz)
  have HC := Lib.hid hc
  have HN := Lib.hid hn
  clear hz hc hn
  go_enter Tryd.func5, Tryd.ntmps5
  go_wp2_with fail
  with_reducible refine (to_any _ k m o g).mono ?_
  rintro e w1 ⟨rfl, h1⟩
  have H1 := Lib.hid (And.intro (mthen H0.out.1 h1) ((Box.new w 30 k m o g).below h1))
  clear h1
  go_wp2_with fail
  with_reducible refine (number_bad _ HC.out).mono ?_
  rintro e w2 ⟨rfl, h2⟩
  have H2 := Lib.hid (And.intro (mthen H1.out.1 (mthen (mnew _ _) h2)) (And.intro ((H1.out.2.below (mnew _ _)).below h2) ((Box.new w1 32 k m o g).below h2)))
  clear h2
  go_wp2_with fail
  with_reducible refine (numOf_yes _ n HN.out).mono ?_
  rintro e w3 ⟨rfl, h3⟩
  have H3 := Lib.hid (And.intro (mthen H2.out.1 h3) (And.intro (H2.out.2.1.below h3) (H2.out.2.2.below h3)))
  clear h3
  go_wp2_with fail
  with_reducible refine (of_any _ (n / 17592186044416) (n / 4294967296 % 4096) (n / 65536 % 65536) (n % 65536)).mono ?_
  rintro e w4 ⟨rfl, h4⟩
  have H4 := Lib.hid (And.intro (mthen H3.out.1 (mthen (mnew _ _) h4)) (And.intro ((H3.out.2.1.below (mnew _ _)).below h4) (And.intro ((H3.out.2.2.below (mnew _ _)).below h4) ((Box.new w3 32 (n / 17592186044416) (n / 4294967296 % 4096) (n / 65536 % 65536) (n % 65536)).below h4))))
  clear h4
  go_wp2_with fail
  with_reducible refine (rcheck_parts _ HN.out).mono ?_
  rintro e w5 ⟨rfl, h5⟩
  have H5 := Lib.hid (And.intro (mthen H4.out.1 h5) (And.intro (H4.out.2.1.below h5) (And.intro (H4.out.2.2.1.below h5) (H4.out.2.2.2.below h5))))
  clear h5
  obtain ⟨y0, y1, y2, y3⟩ := H5.out.2.2.2.cells
  go_wp2_with fail
  with_reducible refine (number_parts _ HN.out).mono ?_
  rintro e w6 ⟨rfl, h6⟩
  have H6 := Lib.hid (And.intro (mthen H5.out.1 h6) (And.intro (H5.out.2.1.below h6) (H5.out.2.2.1.below h6)))
  clear h6 y0 y1 y2 y3
  obtain ⟨s0, s1, s2, s3⟩ := H6.out.2.1.cells
  go_wp2_with fail
  with_reducible refine (rcheck_bad _ HC.out).mono ?_
  rintro e w7 ⟨z, rfl, hz, h7⟩
  obtain ⟨q1, q2, q3⟩ := eqB_false (show ¬ z = 0 by rw [hz]; exact HC.out)
  clear hz
  have H7 := Lib.hid (And.intro (mthen H6.out.1 h7) (And.intro (H6.out.2.1.below h7) (H6.out.2.2.below h7)))
  clear h7 s0 s1 s2 s3
  go_wp2_with fail
  with_reducible refine (mknown_walk _ (H0.out.2.below H7.out.1)).mono ?_
  rintro e w8 ⟨rfl, h8⟩
  have H8 := Lib.hid (mthen H7.out.1 h8)
  clear h8
  go_wp2_with fail
  go_ret
  exact ⟨rfl, H8.out⟩
set_option maxHeartbeats 4000000 in
theorem numbers_bad_no (w : World) (hz : Tz w) (k m o g : Int) (n : Int) (hc : chk k m o g ≠ 0) (hn : ¬ numB n) : Calls Tryd.prog 5 #[stv k m o g, .int .i64 n] w fun e w' => e = .returned (.bool true) ∧ Below w.heap.size w w' := by
  have H0 := Lib.hid (And.intro (mnew w (.cells #[.int .i64 k, .int .i64 m, .int .i64 o, .int .i64 g] 30)) hz)
  have HC := Lib.hid hc
  have HN := Lib.hid hn
  clear hz hc hn
  go_enter Tryd.func5, Tryd.ntmps5
  go_wp2_with fail
  with_reducible refine (to_any _ k m o g).mono ?_
  rintro e w1 ⟨rfl, h1⟩
  have H1 := Lib.hid (And.intro (mthen H0.out.1 h1) ((Box.new w 30 k m o g).below h1))
  clear h1
  go_wp2_with fail
  with_reducible refine (number_bad _ HC.out).mono ?_
  rintro e w2 ⟨rfl, h2⟩
  have H2 := Lib.hid (And.intro (mthen H1.out.1 (mthen (mnew _ _) h2)) (And.intro ((H1.out.2.below (mnew _ _)).below h2) ((Box.new w1 32 k m o g).below h2)))
  clear h2
  go_wp2_with fail
  with_reducible refine (numOf_no _ n HN.out).mono ?_
  rintro e w3 ⟨rfl, h3⟩
  have H3 := Lib.hid (And.intro (mthen H2.out.1 h3) (And.intro (H2.out.2.1.below h3) (H2.out.2.2.below h3)))
  clear h3
  have H6 := Lib.hid (And.intro (mthen H3.out.1 (mnew w3 (.cells #[.int .i64 0, .int .i64 0, .int .i64 0, .int .i64 0] 32))) (And.intro (H3.out.2.1.below (mnew w3 (.cells #[.int .i64 0, .int .i64 0, .int .i64 0, .int .i64 0] 32))) (H3.out.2.2.below (mnew w3 (.cells #[.int .i64 0, .int .i64 0, .int .i64 0, .int .i64 0] 32)))))
  obtain ⟨s0, s1, s2, s3⟩ := H6.out.2.1.cells
  go_wp2_with fail
  with_reducible refine (rcheck_bad _ HC.out).mono ?_
  rintro e w7 ⟨z, rfl, hz, h7⟩
  obtain ⟨q1, q2, q3⟩ := eqB_false (show ¬ z = 0 by rw [hz]; exact HC.out)
  clear hz
  have H7 := Lib.hid (And.intro (mthen H6.out.1 h7) (And.intro (H6.out.2.1.below h7) (H6.out.2.2.below h7)))
  clear h7 s0 s1 s2 s3
  go_wp2_with fail
  with_reducible refine (mknown_walk _ (H0.out.2.below H7.out.1)).mono ?_
  rintro e w8 ⟨rfl, h8⟩
  have H8 := Lib.hid (mthen H7.out.1 h8)
  clear h8
  go_wp2_with fail
  go_ret
  exact ⟨rfl, H8.out⟩
set_option maxHeartbeats 4000000 in
theorem numbers_same (w : World) (hz : Tz w) (k m o g : Int) (hc : chk k m o g = 0) : Calls Tryd.prog 5 #[stv k m o g, .int .i64 (k * 17592186044416 + m * 4294967296 + o * 65536 + g)] w fun e w' => e = .returned (.bool true) ∧ Below w.heap.size w w' := by
  have H0 := Lib.hid (And.intro (mnew w (.cells #[.int .i64 k, .int .i64 m, .int .i64 o, .int .i64 g] 30)) hz)
  obtain ⟨⟨k0, k1⟩, ⟨m0, m1⟩, ⟨o0, o1⟩, g0, g1⟩ := chk_zero hc
  have HC := Lib.hid hc
  clear hz hc
  go_enter Tryd.func5, Tryd.ntmps5
  go_wp2_with fail
  with_reducible refine (to_any _ k m o g).mono ?_
  rintro e w1 ⟨rfl, h1⟩
  have H1 := Lib.hid (And.intro (mthen H0.out.1 h1) ((Box.new w 30 k m o g).below h1))
  clear h1
  go_wp2_with fail
  with_reducible refine (number_ok _ HC.out).mono ?_
  rintro e w2 ⟨rfl, h2⟩
  have H2 := Lib.hid (And.intro (mthen H1.out.1 (mthen (mnew _ _) h2)) (And.intro ((H1.out.2.below (mnew _ _)).below h2) ((Box.new w1 32 k m o g).below h2)))
  clear h2
  go_wp2_with fail
  with_reducible refine (numOf_back _ HC.out).mono ?_
  rintro e w3 ⟨rfl, h3⟩
  have H3 := Lib.hid (And.intro (mthen H2.out.1 h3) (And.intro (H2.out.2.1.below h3) (H2.out.2.2.below h3)))
  clear h3
  go_wp2_with fail
  with_reducible refine (of_any _ k m o g).mono ?_
  rintro e w4 ⟨rfl, h4⟩
  have H4 := Lib.hid (And.intro (mthen H3.out.1 (mthen (mnew _ _) h4)) (And.intro ((H3.out.2.1.below (mnew _ _)).below h4) (And.intro ((H3.out.2.2.below (mnew _ _)).below h4) ((Box.new w3 32 k m o g).below h4))))
  clear h4
  go_wp2_with fail
  with_reducible refine (rcheck_ok _ HC.out).mono ?_
  rintro e w5 ⟨rfl, h5⟩
  have H5 := Lib.hid (And.intro (mthen H4.out.1 h5) (And.intro (H4.out.2.1.below h5) (And.intro (H4.out.2.2.1.below h5) (H4.out.2.2.2.below h5))))
  clear h5
  obtain ⟨y0, y1, y2, y3⟩ := H5.out.2.2.2.cells
  go_wp2_with fail
  with_reducible refine (number_ok _ HC.out).mono ?_
  rintro e w6 ⟨rfl, h6⟩
  have H6 := Lib.hid (And.intro (mthen H5.out.1 h6) (And.intro (H5.out.2.1.below h6) (H5.out.2.2.1.below h6)))
  clear h6 y0 y1 y2 y3
  obtain ⟨s0, s1, s2, s3⟩ := H6.out.2.1.cells
  go_wp2_with fail
  with_reducible refine (rcheck_ok _ HC.out).mono ?_
  rintro e w7 ⟨rfl, h7⟩
  have H7 := Lib.hid (And.intro (mthen H6.out.1 h7) (And.intro (H6.out.2.1.below h7) (H6.out.2.2.below h7)))
  clear h7 s0 s1 s2 s3
  go_wp2_with fail
  with_reducible refine (numOf_back _ HC.out).mono ?_
  rintro e w8 ⟨rfl, h8⟩
  have H8 := Lib.hid (And.intro (mthen H7.out.1 h8) (And.intro (H7.out.2.1.below h8) (H7.out.2.2.below h8)))
  clear h8
  go_wp2_with fail
  with_reducible refine (mknown_walk _ (H0.out.2.below (mthen H8.out.1 (mnew _ _)))).mono ?_
  rintro e w9 ⟨rfl, h9⟩
  have H9 := Lib.hid (And.intro (mthen H8.out.1 (mthen (mnew _ _) h9)) (And.intro ((H8.out.2.1.below (mnew _ _)).below h9) (And.intro ((H8.out.2.2.below (mnew _ _)).below h9) ((Box.new w8 32 k m o g).below h9))))
  clear h9
  obtain ⟨s0, s1, s2, s3⟩ := H9.out.2.1.cells
  obtain ⟨x0, x1, x2, x3⟩ := H9.out.2.2.1.cells
  obtain ⟨y0, y1, y2, y3⟩ := H9.out.2.2.2.cells
  go_wp2_with fail
  go_ret
  exact ⟨rfl, H9.out.1⟩
set_option maxHeartbeats 4000000 in
theorem numbers_yes (w : World) (hz : Tz w) (k m o g : Int) (n : Int) (hc : chk k m o g = 0) (hn : numB n) (hne : ¬ n = (k * 17592186044416 + m * 4294967296 + o * 65536 + g)) : Calls Tryd.prog 5 #[stv k m o g, .int .i64 n] w fun e w' => e = .returned (.bool true) ∧ Below w.heap.size w w' := by
  have H0 := Lib.hid (And.intro (mnew w (.cells #[.int .i64 k, .int .i64 m, .int .i64 o, .int .i64 g] 30)) hz)
  obtain ⟨⟨k0, k1⟩, ⟨m0, m1⟩, ⟨o0, o1⟩, g0, g1⟩ := chk_zero hc
  obtain ⟨d1, d2, d3⟩ := eqB_false hne
  clear hne
  have HC := Lib.hid hc
  have HN := Lib.hid hn
  clear hz hc hn
  go_enter Tryd.func5, Tryd.ntmps5
  go_wp2_with fail
  with_reducible refine (to_any _ k m o g).mono ?_
  rintro e w1 ⟨rfl, h1⟩
  have H1 := Lib.hid (And.intro (mthen H0.out.1 h1) ((Box.new w 30 k m o g).below h1))
  clear h1
  go_wp2_with fail
  with_reducible refine (number_ok _ HC.out).mono ?_
  rintro e w2 ⟨rfl, h2⟩
  have H2 := Lib.hid (And.intro (mthen H1.out.1 (mthen (mnew _ _) h2)) (And.intro ((H1.out.2.below (mnew _ _)).below h2) ((Box.new w1 32 k m o g).below h2)))
  clear h2
  go_wp2_with fail
  with_reducible refine (numOf_yes _ n HN.out).mono ?_
  rintro e w3 ⟨rfl, h3⟩
  have H3 := Lib.hid (And.intro (mthen H2.out.1 h3) (And.intro (H2.out.2.1.below h3) (H2.out.2.2.below h3)))
  clear h3
  go_wp2_with fail
  with_reducible refine (of_any _ (n / 17592186044416) (n / 4294967296 % 4096) (n / 65536 % 65536) (n % 65536)).mono ?_
  rintro e w4 ⟨rfl, h4⟩
  have H4 := Lib.hid (And.intro (mthen H3.out.1 (mthen (mnew _ _) h4)) (And.intro ((H3.out.2.1.below (mnew _ _)).below h4) (And.intro ((H3.out.2.2.below (mnew _ _)).below h4) ((Box.new w3 32 (n / 17592186044416) (n / 4294967296 % 4096) (n / 65536 % 65536) (n % 65536)).below h4))))
  clear h4
  go_wp2_with fail
  with_reducible refine (rcheck_parts _ HN.out).mono ?_
  rintro e w5 ⟨rfl, h5⟩
  have H5 := Lib.hid (And.intro (mthen H4.out.1 h5) (And.intro (H4.out.2.1.below h5) (And.intro (H4.out.2.2.1.below h5) (H4.out.2.2.2.below h5))))
  clear h5
  obtain ⟨y0, y1, y2, y3⟩ := H5.out.2.2.2.cells
  go_wp2_with fail
  with_reducible refine (number_parts _ HN.out).mono ?_
  rintro e w6 ⟨rfl, h6⟩
  have H6 := Lib.hid (And.intro (mthen H5.out.1 h6) (And.intro (H5.out.2.1.below h6) (H5.out.2.2.1.below h6)))
  clear h6 y0 y1 y2 y3
  obtain ⟨s0, s1, s2, s3⟩ := H6.out.2.1.cells
  go_wp2_with fail
  with_reducible refine (rcheck_ok _ HC.out).mono ?_
  rintro e w7 ⟨rfl, h7⟩
  have H7 := Lib.hid (And.intro (mthen H6.out.1 h7) (And.intro (H6.out.2.1.below h7) (H6.out.2.2.below h7)))
  clear h7 s0 s1 s2 s3
  go_wp2_with fail
  with_reducible refine (numOf_back _ HC.out).mono ?_
  rintro e w8 ⟨rfl, h8⟩
  have H8 := Lib.hid (And.intro (mthen H7.out.1 h8) (And.intro (H7.out.2.1.below h8) (H7.out.2.2.below h8)))
  clear h8
  go_wp2_with fail
  with_reducible refine (mknown_walk _ (H0.out.2.below (mthen H8.out.1 (mnew _ _)))).mono ?_
  rintro e w9 ⟨rfl, h9⟩
  have H9 := Lib.hid (And.intro (mthen H8.out.1 (mthen (mnew _ _) h9)) (And.intro ((H8.out.2.1.below (mnew _ _)).below h9) (And.intro ((H8.out.2.2.below (mnew _ _)).below h9) ((Box.new w8 32 k m o g).below h9))))
  clear h9
  obtain ⟨s0, s1, s2, s3⟩ := H9.out.2.1.cells
  obtain ⟨x0, x1, x2, x3⟩ := H9.out.2.2.1.cells
  obtain ⟨y0, y1, y2, y3⟩ := H9.out.2.2.2.cells
  go_wp2_with fail
  go_ret
  exact ⟨rfl, H9.out.1⟩
set_option maxHeartbeats 4000000 in
theorem numbers_no (w : World) (hz : Tz w) (k m o g : Int) (n : Int) (hc : chk k m o g = 0) (hn : ¬ numB n) : Calls Tryd.prog 5 #[stv k m o g, .int .i64 n] w fun e w' => e = .returned (.bool true) ∧ Below w.heap.size w w' := by
  have H0 := Lib.hid (And.intro (mnew w (.cells #[.int .i64 k, .int .i64 m, .int .i64 o, .int .i64 g] 30)) hz)
  obtain ⟨⟨k0, k1⟩, ⟨m0, m1⟩, ⟨o0, o1⟩, g0, g1⟩ := chk_zero hc
  obtain ⟨d1, d2, d3⟩ := eqB_false (show ¬ n = (k * 17592186044416 + m * 4294967296 + o * 65536 + g) from fun h => hn (h ▸ numB_num hc))
  have HC := Lib.hid hc
  have HN := Lib.hid hn
  clear hz hc hn
  go_enter Tryd.func5, Tryd.ntmps5
  go_wp2_with fail
  with_reducible refine (to_any _ k m o g).mono ?_
  rintro e w1 ⟨rfl, h1⟩
  have H1 := Lib.hid (And.intro (mthen H0.out.1 h1) ((Box.new w 30 k m o g).below h1))
  clear h1
  go_wp2_with fail
  with_reducible refine (number_ok _ HC.out).mono ?_
  rintro e w2 ⟨rfl, h2⟩
  have H2 := Lib.hid (And.intro (mthen H1.out.1 (mthen (mnew _ _) h2)) (And.intro ((H1.out.2.below (mnew _ _)).below h2) ((Box.new w1 32 k m o g).below h2)))
  clear h2
  go_wp2_with fail
  with_reducible refine (numOf_no _ n HN.out).mono ?_
  rintro e w3 ⟨rfl, h3⟩
  have H3 := Lib.hid (And.intro (mthen H2.out.1 h3) (And.intro (H2.out.2.1.below h3) (H2.out.2.2.below h3)))
  clear h3
  have H6 := Lib.hid (And.intro (mthen H3.out.1 (mnew w3 (.cells #[.int .i64 0, .int .i64 0, .int .i64 0, .int .i64 0] 32))) (And.intro (H3.out.2.1.below (mnew w3 (.cells #[.int .i64 0, .int .i64 0, .int .i64 0, .int .i64 0] 32))) (H3.out.2.2.below (mnew w3 (.cells #[.int .i64 0, .int .i64 0, .int .i64 0, .int .i64 0] 32)))))
  obtain ⟨s0, s1, s2, s3⟩ := H6.out.2.1.cells
  go_wp2_with fail
  with_reducible refine (rcheck_ok _ HC.out).mono ?_
  rintro e w7 ⟨rfl, h7⟩
  have H7 := Lib.hid (And.intro (mthen H6.out.1 h7) (And.intro (H6.out.2.1.below h7) (H6.out.2.2.below h7)))
  clear h7 s0 s1 s2 s3
  go_wp2_with fail
  with_reducible refine (numOf_back _ HC.out).mono ?_
  rintro e w8 ⟨rfl, h8⟩
  have H8 := Lib.hid (And.intro (mthen H7.out.1 h8) (And.intro (H7.out.2.1.below h8) (H7.out.2.2.below h8)))
  clear h8
  go_wp2_with fail
  with_reducible refine (mknown_walk _ (H0.out.2.below (mthen H8.out.1 (mnew _ _)))).mono ?_
  rintro e w9 ⟨rfl, h9⟩
  have H9 := Lib.hid (And.intro (mthen H8.out.1 (mthen (mnew _ _) h9)) (And.intro ((H8.out.2.1.below (mnew _ _)).below h9) (And.intro ((H8.out.2.2.below (mnew _ _)).below h9) ((Box.new w8 32 k m o g).below h9))))
  clear h9
  obtain ⟨s0, s1, s2, s3⟩ := H9.out.2.1.cells
  obtain ⟨x0, x1, x2, x3⟩ := H9.out.2.2.1.cells
  obtain ⟨y0, y1, y2, y3⟩ := H9.out.2.2.2.cells
  go_wp2_with fail
  go_ret
  exact ⟨rfl, H9.out.1⟩
theorem numbers_walk (w : World) (hz : Tz w) (k m o g n : Int) : Calls Tryd.prog 5 #[stv k m o g, .int .i64 n] w fun e w' => e = .returned (.bool true) ∧ Below w.heap.size w w' := by
  by_cases hc : chk k m o g = 0
  · by_cases he : n = (k * 17592186044416 + m * 4294967296 + o * 65536 + g)
    · subst he
      exact numbers_same w hz k m o g hc
    · by_cases hn : numB n
      · exact numbers_yes w hz k m o g n hc hn he
      · exact numbers_no w hz k m o g n hc hn
  · by_cases hn : numB n
    · exact numbers_bad_yes w hz k m o g n hc hn
    · exact numbers_bad_no w hz k m o g n hc hn
end Go.Proofs.YtobklbangjjocaaDoor
