/-
  Check, and what it asks; the document's Check; To and Of. No condition.
-/
import Derived.Test.YtobklbangjjocaaDoorChecked
import Derived.Test.YtobklbangjjocaaDoorMMem
import Derived.Outline
import Derived.Deep.DeepFit
set_option linter.unusedSimpArgs false
set_option linter.unusedVariables false
set_option maxRecDepth 100000
namespace Go.Proofs.YtobklbangjjocaaDoor
open Go.RowKit

theorem isKind_yes (w : World) (n : Int) (h0 : 0 ≤ n) (h1 : n ≤ 4) : Calls Tryd.prog 29 #[.int .i64 n] w fun e w' => e = .returned (.bool true) ∧ w = w' := by
  go_enter Tryd.func29, Tryd.ntmps29
  go_wp2_with fail
  go_ret
  exact ⟨rfl, rfl⟩
theorem isKind_no (w : World) (n : Int) (h : n < 0 ∨ 4 < n) : Calls Tryd.prog 29 #[.int .i64 n] w fun e w' => e = .returned (.bool false) ∧ w = w' := by
  by_cases h0 : 0 ≤ n
  · have h1 : decide (n ≤ 4) = false := by simp; omega
    clear h
    go_enter Tryd.func29, Tryd.ntmps29
    go_wp2_with fail
    go_ret
    exact ⟨rfl, rfl⟩
  · have h1 : decide (0 ≤ n) = false := by simpa using h0
    clear h h0
    go_enter Tryd.func29, Tryd.ntmps29
    go_wp2_with fail
    go_ret
    exact ⟨rfl, rfl⟩
theorem isMode_yes (w : World) (n : Int) (h0 : 0 ≤ n) (h1 : n ≤ 4095) : Calls Tryd.prog 25 #[.int .i64 n] w fun e w' => e = .returned (.bool true) ∧ w = w' := by
  go_enter Tryd.func25, Tryd.ntmps25
  go_wp2_with fail
  go_ret
  exact ⟨rfl, rfl⟩
theorem isMode_no (w : World) (n : Int) (h : n < 0 ∨ 4095 < n) : Calls Tryd.prog 25 #[.int .i64 n] w fun e w' => e = .returned (.bool false) ∧ w = w' := by
  by_cases h0 : 0 ≤ n
  · have h1 : decide (n ≤ 4095) = false := by simp; omega
    clear h
    go_enter Tryd.func25, Tryd.ntmps25
    go_wp2_with fail
    go_ret
    exact ⟨rfl, rfl⟩
  · have h1 : decide (0 ≤ n) = false := by simpa using h0
    clear h h0
    go_enter Tryd.func25, Tryd.ntmps25
    go_wp2_with fail
    go_ret
    exact ⟨rfl, rfl⟩
theorem isWho_yes (w : World) (n : Int) (h0 : 0 ≤ n) (h1 : n ≤ 65535) : Calls Tryd.prog 31 #[.int .i64 n] w fun e w' => e = .returned (.bool true) ∧ w = w' := by
  go_enter Tryd.func31, Tryd.ntmps31
  go_wp2_with fail
  go_ret
  exact ⟨rfl, rfl⟩
theorem isWho_no (w : World) (n : Int) (h : n < 0 ∨ 65535 < n) : Calls Tryd.prog 31 #[.int .i64 n] w fun e w' => e = .returned (.bool false) ∧ w = w' := by
  by_cases h0 : 0 ≤ n
  · have h1 : decide (n ≤ 65535) = false := by simp; omega
    clear h
    go_enter Tryd.func31, Tryd.ntmps31
    go_wp2_with fail
    go_ret
    exact ⟨rfl, rfl⟩
  · have h1 : decide (0 ≤ n) = false := by simpa using h0
    clear h h0
    go_enter Tryd.func31, Tryd.ntmps31
    go_wp2_with fail
    go_ret
    exact ⟨rfl, rfl⟩

set_option maxHeartbeats 2000000 in
theorem check_any (w : World) (k m o g : Int) : Calls Tryd.prog 16 #[stv k m o g] w fun e w' => e = .returned (.int .i64 (chk k m o g)) ∧ Below w.heap.size w w' := by
  have HB := Lib.hid (mnew w (.cells #[.int .i64 k, .int .i64 m, .int .i64 o, .int .i64 g] 32))
  by_cases hk : 0 ≤ k ∧ k ≤ 4
  · by_cases hm : 0 ≤ m ∧ m ≤ 4095
    · by_cases ho : 0 ≤ o ∧ o ≤ 65535
      · by_cases hg : 0 ≤ g ∧ g ≤ 65535
        · rw [chk_ok hk.1 hk.2 hm.1 hm.2 ho.1 ho.2 hg.1 hg.2]
          have K := Lib.hid (And.intro hk (And.intro hm (And.intro ho hg)))
          clear hk hm ho hg
          go_enter Tryd.func16, Tryd.ntmps16
          go_wp2_with (first
            | (go_at_call 29; ((with_reducible refine (isKind_yes _ k K.out.1.1 K.out.1.2).mono ?_); rintro e w' ⟨rfl, rfl⟩))
            | (go_at_call 25; ((with_reducible refine (isMode_yes _ m K.out.2.1.1 K.out.2.1.2).mono ?_); rintro e w' ⟨rfl, rfl⟩))
            | (go_at_call 31; ((with_reducible refine (isWho_yes _ o K.out.2.2.1.1 K.out.2.2.1.2).mono ?_); rintro e w' ⟨rfl, rfl⟩))
            | (go_at_call 31; ((with_reducible refine (isWho_yes _ g K.out.2.2.2.1 K.out.2.2.2.2).mono ?_); rintro e w' ⟨rfl, rfl⟩)))
          go_ret
          exact ⟨rfl, HB.out⟩
        · rw [chk_arg hk.1 hk.2 hm.1 hm.2 (by omega)]
          have K := Lib.hid (And.intro hk (And.intro hm (And.intro ho (show g < 0 ∨ 65535 < g by omega))))
          clear hk hm ho hg
          go_enter Tryd.func16, Tryd.ntmps16
          go_wp2_with (first
            | (go_at_call 29; ((with_reducible refine (isKind_yes _ k K.out.1.1 K.out.1.2).mono ?_); rintro e w' ⟨rfl, rfl⟩))
            | (go_at_call 25; ((with_reducible refine (isMode_yes _ m K.out.2.1.1 K.out.2.1.2).mono ?_); rintro e w' ⟨rfl, rfl⟩))
            | (go_at_call 31; ((with_reducible refine (isWho_yes _ o K.out.2.2.1.1 K.out.2.2.1.2).mono ?_); rintro e w' ⟨rfl, rfl⟩))
            | (go_at_call 31; ((with_reducible refine (isWho_no _ g K.out.2.2.2).mono ?_); rintro e w' ⟨rfl, rfl⟩)))
          go_ret
          exact ⟨rfl, HB.out⟩
      · rw [chk_arg hk.1 hk.2 hm.1 hm.2 (by omega)]
        have K := Lib.hid (And.intro hk (And.intro hm (show o < 0 ∨ 65535 < o by omega)))
        clear hk hm ho
        go_enter Tryd.func16, Tryd.ntmps16
        go_wp2_with (first
          | (go_at_call 29; ((with_reducible refine (isKind_yes _ k K.out.1.1 K.out.1.2).mono ?_); rintro e w' ⟨rfl, rfl⟩))
          | (go_at_call 25; ((with_reducible refine (isMode_yes _ m K.out.2.1.1 K.out.2.1.2).mono ?_); rintro e w' ⟨rfl, rfl⟩))
          | (go_at_call 31; ((with_reducible refine (isWho_no _ o K.out.2.2).mono ?_); rintro e w' ⟨rfl, rfl⟩)))
        go_ret
        exact ⟨rfl, HB.out⟩
    · rw [chk_mode hk.1 hk.2 (by omega)]
      have K := Lib.hid (And.intro hk (show m < 0 ∨ 4095 < m by omega))
      clear hk hm
      go_enter Tryd.func16, Tryd.ntmps16
      go_wp2_with (first
        | (go_at_call 29; ((with_reducible refine (isKind_yes _ k K.out.1.1 K.out.1.2).mono ?_); rintro e w' ⟨rfl, rfl⟩))
        | (go_at_call 25; ((with_reducible refine (isMode_no _ m K.out.2).mono ?_); rintro e w' ⟨rfl, rfl⟩)))
      go_ret
      exact ⟨rfl, HB.out⟩
  · rw [chk_type (by omega)]
    have K := Lib.hid (show k < 0 ∨ 4 < k by omega)
    clear hk
    go_enter Tryd.func16, Tryd.ntmps16
    go_wp2_with (go_at_call 29; ((with_reducible refine (isKind_no _ k K.out).mono ?_); rintro e w' ⟨rfl, rfl⟩))
    go_ret
    exact ⟨rfl, HB.out⟩

set_option maxHeartbeats 2000000 in
/-- The document's Check. -/
theorem rcheck_any (w : World) (k m o g : Int) : Calls Tryd.prog 17 #[stv k m o g] w fun e w' => e = .returned (.int .i64 (chk k m o g)) ∧ Below w.heap.size w w' := by
  have HB := Lib.hid (mnew w (.cells #[.int .i64 k, .int .i64 m, .int .i64 o, .int .i64 g] 30))
  by_cases k0 : k < 0
  · rw [chk_type (by omega)]
    go_enter Tryd.func17, Tryd.ntmps17
    go_wp2_with fail
    go_ret
    exact ⟨rfl, HB.out⟩
  by_cases k1 : 4 < k
  · rw [chk_type (by omega)]
    go_enter Tryd.func17, Tryd.ntmps17
    go_wp2_with fail
    go_ret
    exact ⟨rfl, HB.out⟩
  by_cases m0 : m < 0
  · rw [chk_mode (by omega) (by omega) (by omega)]
    go_enter Tryd.func17, Tryd.ntmps17
    go_wp2_with fail
    go_ret
    exact ⟨rfl, HB.out⟩
  by_cases m1 : 4095 < m
  · rw [chk_mode (by omega) (by omega) (by omega)]
    go_enter Tryd.func17, Tryd.ntmps17
    go_wp2_with fail
    go_ret
    exact ⟨rfl, HB.out⟩
  by_cases o0 : o < 0
  · rw [chk_arg (by omega) (by omega) (by omega) (by omega) (by omega)]
    go_enter Tryd.func17, Tryd.ntmps17
    go_wp2_with fail
    go_ret
    exact ⟨rfl, HB.out⟩
  by_cases o1 : 65535 < o
  · rw [chk_arg (by omega) (by omega) (by omega) (by omega) (by omega)]
    go_enter Tryd.func17, Tryd.ntmps17
    go_wp2_with fail
    go_ret
    exact ⟨rfl, HB.out⟩
  by_cases g0 : g < 0
  · rw [chk_arg (by omega) (by omega) (by omega) (by omega) (by omega)]
    go_enter Tryd.func17, Tryd.ntmps17
    go_wp2_with fail
    go_ret
    exact ⟨rfl, HB.out⟩
  by_cases g1 : 65535 < g
  · rw [chk_arg (by omega) (by omega) (by omega) (by omega) (by omega)]
    go_enter Tryd.func17, Tryd.ntmps17
    go_wp2_with fail
    go_ret
    exact ⟨rfl, HB.out⟩
  rw [chk_ok (by omega) (by omega) (by omega) (by omega) (by omega) (by omega) (by omega) (by omega)]
  go_enter Tryd.func17, Tryd.ntmps17
  go_wp2_with fail
  go_ret
  exact ⟨rfl, HB.out⟩

theorem to_any (w : World) (k m o g : Int) : Calls Tryd.prog 13 #[stv k m o g] w fun e w' => e = .returned (stv k m o g) ∧ Below w.heap.size w w' := by
  go_enter Tryd.func13, Tryd.ntmps13
  go_wp2_with fail
  refine bodyPost_ret (v := stv k m o g) (by simp [results, Tryd.results13, go_sem]) rfl ⟨rfl, ?_⟩
  exact ((Below.refl _ _).alloc (Nat.le_refl _) _).alloc (by simp) _
theorem of_any (w : World) (k m o g : Int) : Calls Tryd.prog 23 #[stv k m o g] w fun e w' => e = .returned (stv k m o g) ∧ Below w.heap.size w w' := by
  go_enter Tryd.func23, Tryd.ntmps23
  go_wp2_with fail
  refine bodyPost_ret (v := stv k m o g) (by simp [results, Tryd.results23, go_sem]) rfl ⟨rfl, ?_⟩
  exact ((Below.refl _ _).alloc (Nat.le_refl _) _).alloc (by simp) _
end Go.Proofs.YtobklbangjjocaaDoor
