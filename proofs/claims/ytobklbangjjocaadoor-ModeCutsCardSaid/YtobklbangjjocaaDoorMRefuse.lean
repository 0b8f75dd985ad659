/-
  Refusal and Safe, the document's Refusal and Can. No condition but those in each.
-/
import Derived.Test.YtobklbangjjocaaDoorMCut
import Derived.Laws.StructEq
set_option linter.unusedSimpArgs false
set_option linter.unusedVariables false
set_option maxRecDepth 100000
namespace Go.Proofs.YtobklbangjjocaaDoor
open Go.RowKit

theorem refuse_bad {k m o g : Int} (h : chk k m o g ≠ 0) : refuse k m o g = chk k m o g := by unfold refuse; rw [if_pos h]
theorem refuse_type {k m o g : Int} (h : chk k m o g = 0) (h2 : 2 < k) : refuse k m o g = 17 := by unfold refuse; rw [if_neg (by omega), if_pos h2]
theorem refuse_link {k m o g : Int} (h : chk k m o g = 0) (h2 : k = 2) : refuse k m o g = if cutL m [2048, 1024] = m then 0 else 11 := by
  have hm := (chk_zero h).2.1
  have := cut_two_int hm.1 hm.2
  unfold refuse
  rw [if_neg (by omega), if_neg (by omega)]
  have e : decide (k < 2) = false := by simp; omega
  rw [e]
  by_cases hc : cutL m [2048, 1024] = m
  · rw [if_pos hc, this.1 hc]
    rfl
  · rw [if_neg hc]
    cases hs : setB m with
    | false => exact absurd (this.2 hs) hc
    | true => rfl
theorem refuse_file {k m o g : Int} (h : chk k m o g = 0) (h2 : k < 2) : refuse k m o g = if cutL (cutL m [16, 2]) [2048, 1024] = m then 0 else 11 := by
  have hm := (chk_zero h).2.1
  have := cut_four_int hm.1 hm.2
  unfold refuse
  rw [if_neg (by omega), if_neg (by omega), decide_eq_true h2, Bool.true_and]
  by_cases hc : cutL (cutL m [16, 2]) [2048, 1024] = m
  · rw [if_pos hc, (this.1 hc).1, (this.1 hc).2]
    rfl
  · rw [if_neg hc]
    cases hs : setB m with
    | true => rfl
    | false =>
      cases hw : wrB m with
      | true => rfl
      | false => exact absurd (this.2 ⟨hs, hw⟩) hc

set_option maxHeartbeats 2000000 in
theorem refusal_link (w : World) (m o g : Int) (hc : chk 2 m o g = 0) : Calls Tryd.prog 18 #[stv 2 m o g] w fun e w' => e = .returned (.int .i64 (refuse 2 m o g)) ∧ Below w.heap.size w w' := by
  have HB := Lib.hid (mnew w (.cells #[.int .i64 2, .int .i64 m, .int .i64 o, .int .i64 g] 32))
  rw [refuse_link hc rfl]
  obtain ⟨c, hcc⟩ : ∃ c, cutL m [2048, 1024] = c := ⟨_, rfl⟩
  rw [hcc]
  have HC := Lib.hid (And.intro hc hcc)
  clear hc hcc
  by_cases he : c = m
  · rw [if_pos he]
    obtain rfl : m = c := he.symm
    go_enter Tryd.func18, Tryd.ntmps18
    go_wp2_with (first
      | (go_at_call 16; ((with_reducible refine (check_ok _ HC.out.1).mono ?_); rintro e w1 ⟨rfl, h1⟩; obtain ⟨e0, e1, e2, e3⟩ := ((Box.new w 32 2 m o g).below h1).cells; have hlt : w.heap.size < w1.heap.size := (by have := h1.size; simp at this; omega); have H1 := Lib.hid (mthen HB.out h1); clear h1))
      | (go_at_call 24; refine (cut_any _ m _ 2 2 [2048, 1024] (NIn.two1 _ _ _ 2048 1024 (by omega) (by omega) (by omega) (by omega))).mono ?_; rintro e w' ⟨rfl, rfl⟩; rw [HC.out.2]))
    go_ret
    exact ⟨rfl, (H1.out.alloc (by have := H1.out.size; omega) _).alloc (by have := H1.out.size; simp; omega) _⟩
  · rw [if_neg he]
    obtain ⟨q1, q2, q3⟩ := eqB_false he
    clear he
    go_enter Tryd.func18, Tryd.ntmps18
    go_wp2_with (first
      | (go_at_call 16; ((with_reducible refine (check_ok _ HC.out.1).mono ?_); rintro e w1 ⟨rfl, h1⟩; obtain ⟨e0, e1, e2, e3⟩ := ((Box.new w 32 2 m o g).below h1).cells; have hlt : w.heap.size < w1.heap.size := (by have := h1.size; simp at this; omega); have H1 := Lib.hid (mthen HB.out h1); clear h1))
      | (go_at_call 24; refine (cut_any _ m _ 2 2 [2048, 1024] (NIn.two1 _ _ _ 2048 1024 (by omega) (by omega) (by omega) (by omega))).mono ?_; rintro e w' ⟨rfl, rfl⟩; rw [HC.out.2]))
    go_ret
    exact ⟨rfl, (H1.out.alloc (by have := H1.out.size; omega) _).alloc (by have := H1.out.size; simp; omega) _⟩
set_option maxHeartbeats 4000000 in
theorem refusal_file (w : World) (k m o g : Int) (hk : k = 0 ∨ k = 1) (hc : chk k m o g = 0) : Calls Tryd.prog 18 #[stv k m o g] w fun e w' => e = .returned (.int .i64 (refuse k m o g)) ∧ Below w.heap.size w w' := by
  have HB := Lib.hid (mnew w (.cells #[.int .i64 k, .int .i64 m, .int .i64 o, .int .i64 g] 32))
  rw [refuse_file hc (by omega)]
  obtain ⟨c1, hc1⟩ : ∃ c1, cutL m [16, 2] = c1 := ⟨_, rfl⟩
  rw [hc1]
  obtain ⟨c, hcc⟩ : ∃ c, cutL c1 [2048, 1024] = c := ⟨_, rfl⟩
  rw [hcc]
  have HC := Lib.hid (And.intro hc (And.intro hc1 hcc))
  clear hc hcc hc1
  by_cases he : c = m
  · rw [if_pos he]
    obtain rfl : m = c := he.symm
    rcases hk with rfl | rfl
    all_goals
      go_enter Tryd.func18, Tryd.ntmps18
      go_wp2_with fail
      with_reducible refine (check_ok _ HC.out.1).mono ?_
      rintro e w1 ⟨rfl, h1⟩
      obtain ⟨e0, e1, e2, e3⟩ := ((Box.new w 32 _ m o g).below h1).cells
      have hlt : w.heap.size < w1.heap.size := by have := h1.size; simp at this; omega
      have hlt1 : w.heap.size < w1.heap.size + 1 := by omega
      have hlt2 : w.heap.size < w1.heap.size + 1 + 1 := by omega
      have H1 := Lib.hid (mthen HB.out h1)
      clear h1
      go_wp2_with fail
      refine (cut_any _ m _ 2 2 [16, 2] (NIn.two1 _ _ _ 16 2 (by omega) (by omega) (by omega) (by omega))).mono ?_
      rintro e w' ⟨rfl, rfl⟩
      rw [HC.out.2.1]
      go_wp2_with fail
      refine (cut_any _ c1 _ 2 2 [2048, 1024] (NIn.two2 _ _ _ _ 2048 1024 (by omega) (by omega) (by omega) (by omega))).mono ?_
      rintro e w' ⟨rfl, rfl⟩
      rw [HC.out.2.2]
      go_wp2_with fail
      go_ret
      exact ⟨rfl, ((H1.out.alloc (by have := H1.out.size; omega) _).alloc (by have := H1.out.size; simp; omega) _).alloc (by have := H1.out.size; simp; omega) _⟩
  · rw [if_neg he]
    obtain ⟨q1, q2, q3⟩ := eqB_false he
    clear he
    rcases hk with rfl | rfl
    all_goals
      go_enter Tryd.func18, Tryd.ntmps18
      go_wp2_with fail
      with_reducible refine (check_ok _ HC.out.1).mono ?_
      rintro e w1 ⟨rfl, h1⟩
      obtain ⟨e0, e1, e2, e3⟩ := ((Box.new w 32 _ m o g).below h1).cells
      have hlt : w.heap.size < w1.heap.size := by have := h1.size; simp at this; omega
      have hlt1 : w.heap.size < w1.heap.size + 1 := by omega
      have hlt2 : w.heap.size < w1.heap.size + 1 + 1 := by omega
      have H1 := Lib.hid (mthen HB.out h1)
      clear h1
      go_wp2_with fail
      refine (cut_any _ m _ 2 2 [16, 2] (NIn.two1 _ _ _ 16 2 (by omega) (by omega) (by omega) (by omega))).mono ?_
      rintro e w' ⟨rfl, rfl⟩
      rw [HC.out.2.1]
      go_wp2_with fail
      refine (cut_any _ c1 _ 2 2 [2048, 1024] (NIn.two2 _ _ _ _ 2048 1024 (by omega) (by omega) (by omega) (by omega))).mono ?_
      rintro e w' ⟨rfl, rfl⟩
      rw [HC.out.2.2]
      go_wp2_with fail
      go_ret
      exact ⟨rfl, ((H1.out.alloc (by have := H1.out.size; omega) _).alloc (by have := H1.out.size; simp; omega) _).alloc (by have := H1.out.size; simp; omega) _⟩

set_option maxHeartbeats 1000000 in
theorem refusal_type (w : World) (k m o g : Int) (hk : 2 < k) (hc : chk k m o g = 0) : Calls Tryd.prog 18 #[stv k m o g] w fun e w' => e = .returned (.int .i64 (refuse k m o g)) ∧ Below w.heap.size w w' := by
  have HB := Lib.hid (mnew w (.cells #[.int .i64 k, .int .i64 m, .int .i64 o, .int .i64 g] 32))
  rw [refuse_type hc hk]
  obtain ⟨a1, a2, a3⟩ := eqB_false (show ¬ k = 0 by omega)
  obtain ⟨b1, b2, b3⟩ := eqB_false (show ¬ k = 1 by omega)
  obtain ⟨d1, d2, d3⟩ := eqB_false (show ¬ k = 2 by omega)
  have HC := Lib.hid hc
  clear hc hk
  go_enter Tryd.func18, Tryd.ntmps18
  go_wp2_with fail
  with_reducible refine (check_ok _ HC.out).mono ?_
  rintro e w1 ⟨rfl, h1⟩
  obtain ⟨e0, e1, e2, e3⟩ := ((Box.new w 32 _ m o g).below h1).cells
  have hlt : w.heap.size < w1.heap.size := by have := h1.size; simp at this; omega
  have H1 := Lib.hid (mthen HB.out h1)
  clear h1
  go_wp2_with fail
  go_ret
  exact ⟨rfl, H1.out.alloc (by have := H1.out.size; omega) _⟩
theorem refusal_bad (w : World) (k m o g : Int) (hc : chk k m o g ≠ 0) : Calls Tryd.prog 18 #[stv k m o g] w fun e w' => e = .returned (.int .i64 (refuse k m o g)) ∧ Below w.heap.size w w' := by
  have HB := Lib.hid (mnew w (.cells #[.int .i64 k, .int .i64 m, .int .i64 o, .int .i64 g] 32))
  rw [refuse_bad hc]
  have HC := Lib.hid hc
  clear hc
  go_enter Tryd.func18, Tryd.ntmps18
  go_wp2_with fail
  with_reducible refine (check_bad _ HC.out).mono ?_
  rintro e w1 ⟨z, rfl, hz, h1⟩
  obtain ⟨q1, q2, q3⟩ := eqB_false (show ¬ z = 0 by rw [hz]; exact HC.out)
  have HZ := Lib.hid hz
  have H1 := Lib.hid (mthen HB.out h1)
  clear h1 hz
  go_wp2_with fail
  go_ret
  exact ⟨ret_num HZ.out, H1.out⟩
theorem refusal_any (w : World) (k m o g : Int) : Calls Tryd.prog 18 #[stv k m o g] w fun e w' => e = .returned (.int .i64 (refuse k m o g)) ∧ Below w.heap.size w w' := by
  by_cases hc : chk k m o g = 0
  · have hk := (chk_zero hc).1
    by_cases h2 : 2 < k
    · exact refusal_type w k m o g h2 hc
    · by_cases e2 : k = 2
      · subst e2
        exact refusal_link w m o g hc
      · exact refusal_file w k m o g (by omega) hc
  · exact refusal_bad w k m o g hc
theorem safe_any (w : World) (k m o g : Int) : Calls Tryd.prog 20 #[stv k m o g] w fun e w' => e = .returned (.bool (decide (refuse k m o g = 0))) ∧ Below w.heap.size w w' := by
  have HB := Lib.hid (mnew w (.cells #[.int .i64 k, .int .i64 m, .int .i64 o, .int .i64 g] 32))
  go_enter Tryd.func20, Tryd.ntmps20
  go_wp2_with fail
  with_reducible refine (refusal_any _ _ _ _ _).mono ?_
  rintro e w1 ⟨rfl, h1⟩
  have H1 := Lib.hid (mthen HB.out h1)
  clear h1
  go_wp2_with fail
  go_ret
  exact ⟨ret_bool (by first | rfl | (rw [Bool.eq_iff_iff]; simp)), H1.out⟩
end Go.Proofs.YtobklbangjjocaaDoor
