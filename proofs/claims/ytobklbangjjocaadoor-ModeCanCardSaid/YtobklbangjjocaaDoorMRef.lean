/-
  The document's Refusal and Can. Condition of Can: what is wanted is a number of 64 bits.
-/
import Derived.Test.YtobklbangjjocaaDoorMCut
set_option linter.unusedSimpArgs false
set_option linter.unusedVariables false
set_option maxRecDepth 100000
namespace Go.Proofs.YtobklbangjjocaaDoor
open Go.RowKit

theorem rr_bad {k m o g : Int} (h : chk k m o g ≠ 0) : refuse k m o g = chk k m o g := by unfold refuse; rw [if_pos h]
theorem rr_type {k m o g : Int} (h : chk k m o g = 0) (h2 : 2 < k) : refuse k m o g = 17 := by unfold refuse; rw [if_neg (by omega), if_pos h2]
theorem rr_set {k m o g : Int} (h : chk k m o g = 0) (h2 : ¬ 2 < k) (hs : 1 < m / 512 % 8) : refuse k m o g = 11 := by
  unfold refuse setB
  rw [if_neg (by omega), if_neg h2, decide_eq_true (show m / 512 % 8 > 1 from hs)]
  rfl
theorem rr_link {k m o g : Int} (h : chk k m o g = 0) (h2 : k = 2) (hs : ¬ 1 < m / 512 % 8) : refuse k m o g = 0 := by
  unfold refuse setB
  rw [if_neg (by omega), if_neg (by omega), decide_eq_false (show ¬ m / 512 % 8 > 1 from hs), decide_eq_false (show ¬ k < 2 by omega)]
  rfl
theorem rr_file {k m o g : Int} (h : chk k m o g = 0) (h2 : k < 2) (hs : ¬ 1 < m / 512 % 8) : refuse k m o g = if hasB (m / 8 % 8) 2 || hasB (m % 8) 2 then 11 else 0 := by
  have e : m / 1 % 8 = m % 8 := by omega
  unfold refuse setB wrB
  rw [if_neg (by omega), if_neg (by omega), decide_eq_false (show ¬ m / 512 % 8 > 1 from hs), decide_eq_true h2, e]
  rfl

set_option maxHeartbeats 4000000 in
theorem rrefusal_any (w : World) (k m o g : Int) : Calls Tryd.prog 19 #[stv k m o g] w fun e w' => e = .returned (.int .i64 (refuse k m o g)) ∧ Below w.heap.size w w' := by
  have HB := Lib.hid (mnew w (.cells #[.int .i64 k, .int .i64 m, .int .i64 o, .int .i64 g] 30))
  by_cases hc : chk k m o g = 0
  · have hm := (chk_zero hc).2.1
    have hk := (chk_zero hc).1
    have HC := Lib.hid (And.intro hc (And.intro hm hk))
    by_cases h2 : 2 < k
    · rw [rr_type hc h2]
      clear hc hm hk
      go_enter Tryd.func19, Tryd.ntmps19
      go_wp2_with fail
      with_reducible refine (rcheck_ok _ HC.out.1).mono ?_
      rintro e w1 ⟨rfl, h1⟩
      obtain ⟨e0, e1, e2, e3⟩ := ((Box.new w 30 _ m o g).below h1).cells
      have H1 := Lib.hid (mthen HB.out h1)
      clear h1
      go_wp2_with fail
      go_ret
      exact ⟨rfl, H1.out⟩
    · by_cases hs : 1 < m / 512 % 8
      · rw [rr_set hc h2 hs]
        clear hc hm hk
        go_enter Tryd.func19, Tryd.ntmps19
        go_wp2_with fail
        with_reducible refine (rcheck_ok _ HC.out.1).mono ?_
        rintro e w1 ⟨rfl, h1⟩
        obtain ⟨e0, e1, e2, e3⟩ := ((Box.new w 30 _ m o g).below h1).cells
        have H1 := Lib.hid (mthen HB.out h1)
        clear h1
        go_wp2_with fail
        with_reducible refine (digit0_any _ m HC.out.2.1.1 HC.out.2.1.2).mono ?_
        rintro e w2 ⟨rfl, h2⟩
        have H2 := Lib.hid (mthen H1.out h2)
        clear h2 e0 e1 e2 e3
        go_wp2_with fail
        go_ret
        exact ⟨rfl, H2.out⟩
      · by_cases hl : k = 2
        · rw [rr_link hc hl hs]
          have hk2 : decide (k < 2) = false := by simp; omega
          have hs2 : decide (1 < m / 512 % 8) = false := by simpa using hs
          clear hc hm hk hl hs
          go_enter Tryd.func19, Tryd.ntmps19
          go_wp2_with fail
          with_reducible refine (rcheck_ok _ HC.out.1).mono ?_
          rintro e w1 ⟨rfl, h1⟩
          have X1 := (Box.new w 30 k m o g).below h1
          obtain ⟨e0, e1, e2, e3⟩ := X1.cells
          have H1 := Lib.hid (And.intro (mthen HB.out h1) X1)
          clear h1 X1
          go_wp2_with fail
          with_reducible refine (digit0_any _ m HC.out.2.1.1 HC.out.2.1.2).mono ?_
          rintro e w2 ⟨rfl, h2⟩
          obtain ⟨f0, f1, f2, f3⟩ := (H1.out.2.below h2).cells
          have H2 := Lib.hid (mthen H1.out.1 h2)
          clear h2 e0 e1 e2 e3
          go_wp2_with fail
          go_ret
          exact ⟨rfl, H2.out⟩
        · have hlt : k < 2 := by omega
          rw [rr_file hc hlt hs]
          have hs2 : decide (1 < m / 512 % 8) = false := by simpa using hs
          have HD : Hid ((0 ≤ m / 8 % 8 ∧ m / 8 % 8 ≤ 7) ∧ 0 ≤ m % 8 ∧ m % 8 ≤ 7) := Lib.hid (by omega)
          clear hc hm hk hl hs
          cases hv : hasB (m / 8 % 8) 2 with
          | true =>
            rw [Bool.true_or]
            have HV := Lib.hid hv
            clear hv
            rw [if_pos rfl]
            go_enter Tryd.func19, Tryd.ntmps19
            go_wp2_with fail
            with_reducible refine (rcheck_ok _ HC.out.1).mono ?_
            rintro e w1 ⟨rfl, h1⟩
            have X1 := (Box.new w 30 k m o g).below h1
            obtain ⟨e0, e1, e2, e3⟩ := X1.cells
            have H1 := Lib.hid (And.intro (mthen HB.out h1) X1)
            clear h1 X1
            go_wp2_with fail
            with_reducible refine (digit0_any _ m HC.out.2.1.1 HC.out.2.1.2).mono ?_
            rintro e w2 ⟨rfl, h2⟩
            have X2 := H1.out.2.below h2
            obtain ⟨f0, f1, f2, f3⟩ := X2.cells
            have H2 := Lib.hid (And.intro (mthen H1.out.1 h2) X2)
            clear h2 e0 e1 e2 e3 X2
            go_wp2_with fail
            with_reducible refine (digit2_any _ m HC.out.2.1.1 HC.out.2.1.2).mono ?_
            rintro e w3 ⟨rfl, h3⟩
            have H3 := Lib.hid (mthen H2.out.1 h3)
            clear h3 f0 f1 f2 f3
            go_wp2_with fail
            with_reducible refine (has_any _ (m / 8 % 8) 2 HD.out.1.1 HD.out.1.2 (by omega) (by omega)).mono ?_
            rintro e w' ⟨rfl, rfl⟩
            rw [HV.out]
            go_wp2_with fail
            go_ret
            exact ⟨rfl, H3.out⟩
          | false =>
            rw [Bool.false_or]
            have HV := Lib.hid hv
            clear hv
            obtain ⟨b, hbb⟩ : ∃ b, hasB (m % 8) 2 = b := ⟨_, rfl⟩
            rw [hbb]
            have HW := Lib.hid hbb
            clear hbb
            cases b
            all_goals
              first | rw [if_pos rfl] | rw [if_neg (by decide)]
              go_enter Tryd.func19, Tryd.ntmps19
              go_wp2_with fail
              with_reducible refine (rcheck_ok _ HC.out.1).mono ?_
              rintro e w1 ⟨rfl, h1⟩
              have X1 := (Box.new w 30 k m o g).below h1
              obtain ⟨e0, e1, e2, e3⟩ := X1.cells
              have H1 := Lib.hid (And.intro (mthen HB.out h1) X1)
              clear h1 X1
              go_wp2_with fail
              with_reducible refine (digit0_any _ m HC.out.2.1.1 HC.out.2.1.2).mono ?_
              rintro e w2 ⟨rfl, h2⟩
              have X2 := H1.out.2.below h2
              obtain ⟨f0, f1, f2, f3⟩ := X2.cells
              have H2 := Lib.hid (And.intro (mthen H1.out.1 h2) X2)
              clear h2 e0 e1 e2 e3 X2
              go_wp2_with fail
              with_reducible refine (digit2_any _ m HC.out.2.1.1 HC.out.2.1.2).mono ?_
              rintro e w3 ⟨rfl, h3⟩
              have X3 := H2.out.2.below h3
              obtain ⟨e0, e1, e2, e3⟩ := X3.cells
              have H3 := Lib.hid (And.intro (mthen H2.out.1 h3) X3)
              clear h3 f0 f1 f2 f3 X3
              go_wp2_with fail
              with_reducible refine (has_any _ (m / 8 % 8) 2 HD.out.1.1 HD.out.1.2 (by omega) (by omega)).mono ?_
              rintro e w' ⟨rfl, rfl⟩
              rw [HV.out]
              go_wp2_with fail
              with_reducible refine (digit3_any _ m HC.out.2.1.1 HC.out.2.1.2).mono ?_
              rintro e w4 ⟨rfl, h4⟩
              have H4 := Lib.hid (mthen H3.out.1 h4)
              clear h4 e0 e1 e2 e3
              go_wp2_with fail
              with_reducible refine (has_any _ (m % 8) 2 HD.out.2.1 HD.out.2.2 (by omega) (by omega)).mono ?_
              rintro e w' ⟨rfl, rfl⟩
              rw [HW.out]
              go_wp2_with fail
              go_ret
              exact ⟨rfl, H4.out⟩
  · rw [rr_bad hc]
    have HC := Lib.hid hc
    clear hc
    go_enter Tryd.func19, Tryd.ntmps19
    go_wp2_with fail
    with_reducible refine (rcheck_bad _ HC.out).mono ?_
    rintro e w1 ⟨z, rfl, hz, h1⟩
    obtain ⟨q1, q2, q3⟩ := eqB_false (show ¬ z = 0 by rw [hz]; exact HC.out)
    have HZ := Lib.hid hz
    have H1 := Lib.hid (mthen HB.out h1)
    clear h1 hz
    go_wp2_with fail
    go_ret
    exact ⟨ret_num HZ.out, H1.out⟩
theorem rc_bad {k m o g who group x : Int} (h : chk k m o g ≠ 0) : refCanB k m o g who group x = false := by unfold refCanB; simp [h]
theorem rc_out {k m o g who group x : Int} (h : (who < 0 ∨ 65535 < who) ∨ (group < 0 ∨ 65535 < group) ∨ x < 0 ∨ 7 < x) : refCanB k m o g who group x = false := by
  unfold refCanB whoB
  rcases h with h | h | h
  · have : (decide (0 ≤ who) && decide (who ≤ 65535)) = false := by rw [Bool.and_eq_false_iff, decide_eq_false_iff_not, decide_eq_false_iff_not]; omega
    rw [this]
    simp
  · have : (decide (0 ≤ group) && decide (group ≤ 65535)) = false := by rw [Bool.and_eq_false_iff, decide_eq_false_iff_not, decide_eq_false_iff_not]; omega
    rw [this]
    simp
  · rw [decide_eq_false (show ¬ (0 ≤ x ∧ x ≤ 7) by omega)]
    simp
theorem rc_all {k m o g group x : Int} (h : chk k m o g = 0) (h2 : 0 ≤ group) (h3 : group ≤ 65535) (h4 : 0 ≤ x) (h5 : x ≤ 7) : refCanB k m o g 0 group x = true := by
  unfold refCanB whoB
  simp [h, h2, h3, h4, h5]
theorem rc_in {k m o g who group x d : Int} (h : chk k m o g = 0) (h0 : 0 ≤ who) (h1 : who ≤ 65535) (hw : ¬ who = 0) (h2 : 0 ≤ group) (h3 : group ≤ 65535) (h4 : 0 ≤ x) (h5 : x ≤ 7) (hd : gr m o g who group = d) : refCanB k m o g who group x = hasB d x := by
  unfold refCanB whoB
  simp [h, h0, h1, h2, h3, h4, h5, hw, hd]
set_option maxHeartbeats 4000000 in
theorem rcan_any (w : World) (k m o g who group x : Int) : Calls Tryd.prog 14 #[stv k m o g, .int .i64 who, .int .i64 group, .int .i64 x] w fun e w' => e = .returned (.bool (refCanB k m o g who group x)) ∧ Below w.heap.size w w' := by
  have HB := Lib.hid (mnew w (.cells #[.int .i64 k, .int .i64 m, .int .i64 o, .int .i64 g] 30))
  by_cases hc : chk k m o g = 0
  · by_cases hr : (0 ≤ who ∧ who ≤ 65535) ∧ (0 ≤ group ∧ group ≤ 65535) ∧ 0 ≤ x ∧ x ≤ 7
    · obtain ⟨⟨w0, w1⟩, ⟨p0, p1⟩, x0, x1⟩ := hr
      by_cases hz : who = 0
      · subst hz
        rw [rc_all hc p0 p1 x0 x1]
        have HC := Lib.hid hc
        clear hc
        go_enter Tryd.func14, Tryd.ntmps14
        go_wp2_with fail
        with_reducible refine (rcheck_ok _ HC.out).mono ?_
        rintro e v1 ⟨rfl, h1⟩
        have H1 := Lib.hid (mthen HB.out h1)
        clear h1
        go_wp2_with fail
        go_ret
        exact ⟨rfl, H1.out⟩
      · by_cases c2 : who = o
        · have e : gr m o g who group = m / 64 % 8 := by unfold gr; rw [if_neg hz, if_pos c2]
          rw [rc_in hc w0 w1 hz p0 p1 x0 x1 e]
          have HC := Lib.hid (And.intro hc (And.intro (chk_zero hc).2.1 (show 0 ≤ m / 64 % 8 ∧ m / 64 % 8 ≤ 7 by omega)))
          obtain ⟨q1, q2, q3⟩ := eqB_false hz
          clear hc e hz
          subst c2
          have hd : who = group ∨ ¬ who = group := Classical.em _
          by_cases c3 : group = g
          · subst c3
            clear hd
            go_enter Tryd.func14, Tryd.ntmps14
            go_wp2_with fail
            with_reducible refine (rcheck_ok _ HC.out.1).mono ?_
            rintro e v1 ⟨rfl, h1⟩
            obtain ⟨e0, e1, e2, e3⟩ := ((Box.new w 30 k m who group).below h1).cells
            have H1 := Lib.hid (mthen HB.out h1)
            clear h1
            go_wp2_with fail
            with_reducible refine (digit1_any _ m HC.out.2.1.1 HC.out.2.1.2).mono ?_
            rintro e v2 ⟨rfl, h2⟩
            have H2 := Lib.hid (mthen H1.out h2)
            clear h2 e0 e1 e2 e3
            go_wp2_with fail
            with_reducible refine (has_any _ (m / 64 % 8) x HC.out.2.2.1 HC.out.2.2.2 (by omega) (by omega)).mono ?_
            rintro e w' ⟨rfl, rfl⟩
            go_wp2_with fail
            go_ret
            exact ⟨rfl, H2.out⟩
          · obtain ⟨r1, r2, r3⟩ := eqB_false c3
            clear hd c3
            go_enter Tryd.func14, Tryd.ntmps14
            go_wp2_with fail
            with_reducible refine (rcheck_ok _ HC.out.1).mono ?_
            rintro e v1 ⟨rfl, h1⟩
            obtain ⟨e0, e1, e2, e3⟩ := ((Box.new w 30 k m who g).below h1).cells
            have H1 := Lib.hid (mthen HB.out h1)
            clear h1
            go_wp2_with fail
            with_reducible refine (digit1_any _ m HC.out.2.1.1 HC.out.2.1.2).mono ?_
            rintro e v2 ⟨rfl, h2⟩
            have H2 := Lib.hid (mthen H1.out h2)
            clear h2 e0 e1 e2 e3
            go_wp2_with fail
            with_reducible refine (has_any _ (m / 64 % 8) x HC.out.2.2.1 HC.out.2.2.2 (by omega) (by omega)).mono ?_
            rintro e w' ⟨rfl, rfl⟩
            go_wp2_with fail
            go_ret
            exact ⟨rfl, H2.out⟩
        · obtain ⟨q4, q5, q6⟩ := eqB_false c2
          by_cases c3 : group = g
          · have e : gr m o g who group = m / 8 % 8 := by unfold gr; rw [if_neg hz, if_neg c2, if_pos c3]
            rw [rc_in hc w0 w1 hz p0 p1 x0 x1 e]
            have HC := Lib.hid (And.intro hc (And.intro (chk_zero hc).2.1 (show 0 ≤ m / 8 % 8 ∧ m / 8 % 8 ≤ 7 by omega)))
            obtain ⟨q1, q2, q3⟩ := eqB_false hz
            clear hc e hz c2
            subst c3
            go_enter Tryd.func14, Tryd.ntmps14
            go_wp2_with fail
            with_reducible refine (rcheck_ok _ HC.out.1).mono ?_
            rintro e v1 ⟨rfl, h1⟩
            obtain ⟨e0, e1, e2, e3⟩ := ((Box.new w 30 k m o group).below h1).cells
            have H1 := Lib.hid (mthen HB.out h1)
            clear h1
            go_wp2_with fail
            with_reducible refine (digit2_any _ m HC.out.2.1.1 HC.out.2.1.2).mono ?_
            rintro e v2 ⟨rfl, h2⟩
            have H2 := Lib.hid (mthen H1.out h2)
            clear h2 e0 e1 e2 e3
            go_wp2_with fail
            with_reducible refine (has_any _ (m / 8 % 8) x HC.out.2.2.1 HC.out.2.2.2 (by omega) (by omega)).mono ?_
            rintro e w' ⟨rfl, rfl⟩
            go_wp2_with fail
            go_ret
            exact ⟨rfl, H2.out⟩
          · have e : gr m o g who group = m % 8 := by unfold gr; rw [if_neg hz, if_neg c2, if_neg c3]
            rw [rc_in hc w0 w1 hz p0 p1 x0 x1 e]
            have HC := Lib.hid (And.intro hc (And.intro (chk_zero hc).2.1 (show 0 ≤ m % 8 ∧ m % 8 ≤ 7 by omega)))
            obtain ⟨q1, q2, q3⟩ := eqB_false hz
            obtain ⟨r1, r2, r3⟩ := eqB_false c3
            clear hc e hz c2 c3
            go_enter Tryd.func14, Tryd.ntmps14
            go_wp2_with fail
            with_reducible refine (rcheck_ok _ HC.out.1).mono ?_
            rintro e v1 ⟨rfl, h1⟩
            obtain ⟨e0, e1, e2, e3⟩ := ((Box.new w 30 k m o g).below h1).cells
            have H1 := Lib.hid (mthen HB.out h1)
            clear h1
            go_wp2_with fail
            with_reducible refine (digit3_any _ m HC.out.2.1.1 HC.out.2.1.2).mono ?_
            rintro e v2 ⟨rfl, h2⟩
            have H2 := Lib.hid (mthen H1.out h2)
            clear h2 e0 e1 e2 e3
            go_wp2_with fail
            with_reducible refine (has_any _ (m % 8) x HC.out.2.2.1 HC.out.2.2.2 (by omega) (by omega)).mono ?_
            rintro e w' ⟨rfl, rfl⟩
            go_wp2_with fail
            go_ret
            exact ⟨rfl, H2.out⟩
    · rw [rc_out (by omega)]
      have HC := Lib.hid hc
      clear hc
      by_cases c0 : who < 0
      · clear hr
        go_enter Tryd.func14, Tryd.ntmps14
        go_wp2_with fail
        with_reducible refine (rcheck_ok _ HC.out).mono ?_
        rintro e v1 ⟨rfl, h1⟩
        have H1 := Lib.hid (mthen HB.out h1)
        clear h1
        go_wp2_with fail
        go_ret
        exact ⟨rfl, H1.out⟩
      by_cases c1 : 65535 < who
      · clear hr
        go_enter Tryd.func14, Tryd.ntmps14
        go_wp2_with fail
        with_reducible refine (rcheck_ok _ HC.out).mono ?_
        rintro e v1 ⟨rfl, h1⟩
        have H1 := Lib.hid (mthen HB.out h1)
        clear h1
        go_wp2_with fail
        go_ret
        exact ⟨rfl, H1.out⟩
      by_cases c2 : group < 0
      · clear hr
        go_enter Tryd.func14, Tryd.ntmps14
        go_wp2_with fail
        with_reducible refine (rcheck_ok _ HC.out).mono ?_
        rintro e v1 ⟨rfl, h1⟩
        have H1 := Lib.hid (mthen HB.out h1)
        clear h1
        go_wp2_with fail
        go_ret
        exact ⟨rfl, H1.out⟩
      by_cases c3 : 65535 < group
      · clear hr
        go_enter Tryd.func14, Tryd.ntmps14
        go_wp2_with fail
        with_reducible refine (rcheck_ok _ HC.out).mono ?_
        rintro e v1 ⟨rfl, h1⟩
        have H1 := Lib.hid (mthen HB.out h1)
        clear h1
        go_wp2_with fail
        go_ret
        exact ⟨rfl, H1.out⟩
      by_cases c4 : x < 0
      · clear hr
        go_enter Tryd.func14, Tryd.ntmps14
        go_wp2_with fail
        with_reducible refine (rcheck_ok _ HC.out).mono ?_
        rintro e v1 ⟨rfl, h1⟩
        have H1 := Lib.hid (mthen HB.out h1)
        clear h1
        go_wp2_with fail
        go_ret
        exact ⟨rfl, H1.out⟩
      have c5 : 7 < x := by omega
      clear hr
      go_enter Tryd.func14, Tryd.ntmps14
      go_wp2_with fail
      with_reducible refine (rcheck_ok _ HC.out).mono ?_
      rintro e v1 ⟨rfl, h1⟩
      have H1 := Lib.hid (mthen HB.out h1)
      clear h1
      go_wp2_with fail
      go_ret
      exact ⟨rfl, H1.out⟩
  · rw [rc_bad hc]
    have HC := Lib.hid hc
    clear hc
    go_enter Tryd.func14, Tryd.ntmps14
    go_wp2_with fail
    with_reducible refine (rcheck_bad _ HC.out).mono ?_
    rintro e v1 ⟨z, rfl, hz, h1⟩
    obtain ⟨q1, q2, q3⟩ := eqB_false (show ¬ z = 0 by rw [hz]; exact HC.out)
    have H1 := Lib.hid (mthen HB.out h1)
    clear h1 hz
    go_wp2_with fail
    go_ret
    exact ⟨rfl, H1.out⟩
end Go.Proofs.YtobklbangjjocaaDoor
