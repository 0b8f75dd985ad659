/-
  Check, and what it asks; the document's Check; To and Of. No condition.
-/
import Derived.Test.YtlpljedacohngaaGreatDoorChecked
import Derived.Test.YtlpljedacohngaaGreatDoorM6
import Derived.Outline
import Derived.Deep.DeepFit
import Derived.Laws.StructEq
import Derived.Test.YtlpljedacohngaaGreatDoorM1
import Derived.Test.YtlpljedacohngaaGreatDoorProg
import Derived.Great.BuildSlice
import Derived.Deep.RegionLaw
import Derived.Deep.AppendLies
import Derived.Lib.Hide
import Derived.StillTailTactics
import Derived.Laws.CopyOwn
section
set_option linter.unusedSimpArgs false
set_option linter.unusedVariables false
set_option maxRecDepth 100000
namespace Go.Proofs.YtlpljedacohngaaGreatDoor
open Go.RowKit

theorem isKind_yes (w : World) (n : Int) (h0 : 0 ≤ n) (h1 : n ≤ 4) : Calls Tryz.prog 110 #[.int .i64 n] w fun e w' => e = .returned (.bool true) ∧ w = w' := by
  go_enter Tryz.func110, Tryz.ntmps110
  go_wp2_with fail
  go_ret
  exact ⟨rfl, rfl⟩
theorem isKind_no (w : World) (n : Int) (h : n < 0 ∨ 4 < n) : Calls Tryz.prog 110 #[.int .i64 n] w fun e w' => e = .returned (.bool false) ∧ w = w' := by
  by_cases h0 : 0 ≤ n
  · have h1 : decide (n ≤ 4) = false := by simp; omega
    clear h
    go_enter Tryz.func110, Tryz.ntmps110
    go_wp2_with fail
    go_ret
    exact ⟨rfl, rfl⟩
  · have h1 : decide (0 ≤ n) = false := by simpa using h0
    clear h h0
    go_enter Tryz.func110, Tryz.ntmps110
    go_wp2_with fail
    go_ret
    exact ⟨rfl, rfl⟩
theorem isMode_yes (w : World) (n : Int) (h0 : 0 ≤ n) (h1 : n ≤ 4095) : Calls Tryz.prog 111 #[.int .i64 n] w fun e w' => e = .returned (.bool true) ∧ w = w' := by
  go_enter Tryz.func111, Tryz.ntmps111
  go_wp2_with fail
  go_ret
  exact ⟨rfl, rfl⟩
theorem isMode_no (w : World) (n : Int) (h : n < 0 ∨ 4095 < n) : Calls Tryz.prog 111 #[.int .i64 n] w fun e w' => e = .returned (.bool false) ∧ w = w' := by
  by_cases h0 : 0 ≤ n
  · have h1 : decide (n ≤ 4095) = false := by simp; omega
    clear h
    go_enter Tryz.func111, Tryz.ntmps111
    go_wp2_with fail
    go_ret
    exact ⟨rfl, rfl⟩
  · have h1 : decide (0 ≤ n) = false := by simpa using h0
    clear h h0
    go_enter Tryz.func111, Tryz.ntmps111
    go_wp2_with fail
    go_ret
    exact ⟨rfl, rfl⟩
theorem isWho_yes (w : World) (n : Int) (h0 : 0 ≤ n) (h1 : n ≤ 65535) : Calls Tryz.prog 112 #[.int .i64 n] w fun e w' => e = .returned (.bool true) ∧ w = w' := by
  go_enter Tryz.func112, Tryz.ntmps112
  go_wp2_with fail
  go_ret
  exact ⟨rfl, rfl⟩
theorem isWho_no (w : World) (n : Int) (h : n < 0 ∨ 65535 < n) : Calls Tryz.prog 112 #[.int .i64 n] w fun e w' => e = .returned (.bool false) ∧ w = w' := by
  by_cases h0 : 0 ≤ n
  · have h1 : decide (n ≤ 65535) = false := by simp; omega
    clear h
    go_enter Tryz.func112, Tryz.ntmps112
    go_wp2_with fail
    go_ret
    exact ⟨rfl, rfl⟩
  · have h1 : decide (0 ≤ n) = false := by simpa using h0
    clear h h0
    go_enter Tryz.func112, Tryz.ntmps112
    go_wp2_with fail
    go_ret
    exact ⟨rfl, rfl⟩

set_option maxHeartbeats 2000000 in
theorem mcheck_any (w : World) (k m o g : Int) : Calls Tryz.prog 103 #[stv k m o g] w fun e w' => e = .returned (.int .i64 (chk k m o g)) ∧ Below w.heap.size w w' := by
  have HB := Lib.hid (mnew w (.cells #[.int .i64 k, .int .i64 m, .int .i64 o, .int .i64 g] 130))
  by_cases hk : 0 ≤ k ∧ k ≤ 4
  · by_cases hm : 0 ≤ m ∧ m ≤ 4095
    · by_cases ho : 0 ≤ o ∧ o ≤ 65535
      · by_cases hg : 0 ≤ g ∧ g ≤ 65535
        · rw [chk_ok hk.1 hk.2 hm.1 hm.2 ho.1 ho.2 hg.1 hg.2]
          have K := Lib.hid (And.intro hk (And.intro hm (And.intro ho hg)))
          clear hk hm ho hg
          go_enter Tryz.func103, Tryz.ntmps103
          go_wp2_with (first
            | (go_at_call 110; ((with_reducible refine (isKind_yes _ k K.out.1.1 K.out.1.2).mono ?_); rintro e w' ⟨rfl, rfl⟩))
            | (go_at_call 111; ((with_reducible refine (isMode_yes _ m K.out.2.1.1 K.out.2.1.2).mono ?_); rintro e w' ⟨rfl, rfl⟩))
            | (go_at_call 112; ((with_reducible refine (isWho_yes _ o K.out.2.2.1.1 K.out.2.2.1.2).mono ?_); rintro e w' ⟨rfl, rfl⟩))
            | (go_at_call 112; ((with_reducible refine (isWho_yes _ g K.out.2.2.2.1 K.out.2.2.2.2).mono ?_); rintro e w' ⟨rfl, rfl⟩)))
          go_ret
          exact ⟨rfl, HB.out⟩
        · rw [chk_arg hk.1 hk.2 hm.1 hm.2 (by omega)]
          have K := Lib.hid (And.intro hk (And.intro hm (And.intro ho (show g < 0 ∨ 65535 < g by omega))))
          clear hk hm ho hg
          go_enter Tryz.func103, Tryz.ntmps103
          go_wp2_with (first
            | (go_at_call 110; ((with_reducible refine (isKind_yes _ k K.out.1.1 K.out.1.2).mono ?_); rintro e w' ⟨rfl, rfl⟩))
            | (go_at_call 111; ((with_reducible refine (isMode_yes _ m K.out.2.1.1 K.out.2.1.2).mono ?_); rintro e w' ⟨rfl, rfl⟩))
            | (go_at_call 112; ((with_reducible refine (isWho_yes _ o K.out.2.2.1.1 K.out.2.2.1.2).mono ?_); rintro e w' ⟨rfl, rfl⟩))
            | (go_at_call 112; ((with_reducible refine (isWho_no _ g K.out.2.2.2).mono ?_); rintro e w' ⟨rfl, rfl⟩)))
          go_ret
          exact ⟨rfl, HB.out⟩
      · rw [chk_arg hk.1 hk.2 hm.1 hm.2 (by omega)]
        have K := Lib.hid (And.intro hk (And.intro hm (show o < 0 ∨ 65535 < o by omega)))
        clear hk hm ho
        go_enter Tryz.func103, Tryz.ntmps103
        go_wp2_with (first
          | (go_at_call 110; ((with_reducible refine (isKind_yes _ k K.out.1.1 K.out.1.2).mono ?_); rintro e w' ⟨rfl, rfl⟩))
          | (go_at_call 111; ((with_reducible refine (isMode_yes _ m K.out.2.1.1 K.out.2.1.2).mono ?_); rintro e w' ⟨rfl, rfl⟩))
          | (go_at_call 112; ((with_reducible refine (isWho_no _ o K.out.2.2).mono ?_); rintro e w' ⟨rfl, rfl⟩)))
        go_ret
        exact ⟨rfl, HB.out⟩
    · rw [chk_mode hk.1 hk.2 (by omega)]
      have K := Lib.hid (And.intro hk (show m < 0 ∨ 4095 < m by omega))
      clear hk hm
      go_enter Tryz.func103, Tryz.ntmps103
      go_wp2_with (first
        | (go_at_call 110; ((with_reducible refine (isKind_yes _ k K.out.1.1 K.out.1.2).mono ?_); rintro e w' ⟨rfl, rfl⟩))
        | (go_at_call 111; ((with_reducible refine (isMode_no _ m K.out.2).mono ?_); rintro e w' ⟨rfl, rfl⟩)))
      go_ret
      exact ⟨rfl, HB.out⟩
  · rw [chk_type (by omega)]
    have K := Lib.hid (show k < 0 ∨ 4 < k by omega)
    clear hk
    go_enter Tryz.func103, Tryz.ntmps103
    go_wp2_with (go_at_call 110; ((with_reducible refine (isKind_no _ k K.out).mono ?_); rintro e w' ⟨rfl, rfl⟩))
    go_ret
    exact ⟨rfl, HB.out⟩

set_option maxHeartbeats 2000000 in
/-- The document's Check. -/
theorem mrcheck_any (w : World) (k m o g : Int) : Calls Tryz.prog 44 #[stv k m o g] w fun e w' => e = .returned (.int .i64 (chk k m o g)) ∧ Below w.heap.size w w' := by
  have HB := Lib.hid (mnew w (.cells #[.int .i64 k, .int .i64 m, .int .i64 o, .int .i64 g] 72))
  by_cases k0 : k < 0
  · rw [chk_type (by omega)]
    go_enter Tryz.func44, Tryz.ntmps44
    go_wp2_with fail
    go_ret
    exact ⟨rfl, HB.out⟩
  by_cases k1 : 4 < k
  · rw [chk_type (by omega)]
    go_enter Tryz.func44, Tryz.ntmps44
    go_wp2_with fail
    go_ret
    exact ⟨rfl, HB.out⟩
  by_cases m0 : m < 0
  · rw [chk_mode (by omega) (by omega) (by omega)]
    go_enter Tryz.func44, Tryz.ntmps44
    go_wp2_with fail
    go_ret
    exact ⟨rfl, HB.out⟩
  by_cases m1 : 4095 < m
  · rw [chk_mode (by omega) (by omega) (by omega)]
    go_enter Tryz.func44, Tryz.ntmps44
    go_wp2_with fail
    go_ret
    exact ⟨rfl, HB.out⟩
  by_cases o0 : o < 0
  · rw [chk_arg (by omega) (by omega) (by omega) (by omega) (by omega)]
    go_enter Tryz.func44, Tryz.ntmps44
    go_wp2_with fail
    go_ret
    exact ⟨rfl, HB.out⟩
  by_cases o1 : 65535 < o
  · rw [chk_arg (by omega) (by omega) (by omega) (by omega) (by omega)]
    go_enter Tryz.func44, Tryz.ntmps44
    go_wp2_with fail
    go_ret
    exact ⟨rfl, HB.out⟩
  by_cases g0 : g < 0
  · rw [chk_arg (by omega) (by omega) (by omega) (by omega) (by omega)]
    go_enter Tryz.func44, Tryz.ntmps44
    go_wp2_with fail
    go_ret
    exact ⟨rfl, HB.out⟩
  by_cases g1 : 65535 < g
  · rw [chk_arg (by omega) (by omega) (by omega) (by omega) (by omega)]
    go_enter Tryz.func44, Tryz.ntmps44
    go_wp2_with fail
    go_ret
    exact ⟨rfl, HB.out⟩
  rw [chk_ok (by omega) (by omega) (by omega) (by omega) (by omega) (by omega) (by omega) (by omega)]
  go_enter Tryz.func44, Tryz.ntmps44
  go_wp2_with fail
  go_ret
  exact ⟨rfl, HB.out⟩

end Go.Proofs.YtlpljedacohngaaGreatDoor
end

/-
  The document's digits, what is granted, Cut, and whether somebody may. Conditions: a mode and a who that are ones, where said; lists that lie in memory.
-/

section
set_option linter.unusedSimpArgs false
set_option linter.unusedVariables false
set_option maxRecDepth 100000
namespace Go.Proofs.YtlpljedacohngaaGreatDoor
open Go.RowKit

theorem digit0_any (w : World) (m : Int) (h0 : 0 ≤ m) (h1 : m ≤ 4095) : Calls Tryz.prog 45 #[.int .i64 m, .int .i64 0] w fun e w' => e = .returned (.int .i64 (m / 512 % 8)) ∧ Below w.heap.size w w' := by
  have HB := Lib.hid (mnew w (.cells #[.int .i64 512, .int .i64 64, .int .i64 8, .int .i64 1] 104))
  go_enter Tryz.func45, Tryz.ntmps45
  go_wp2_with fail
  go_ret
  exact ⟨rfl, HB.out⟩
theorem digit1_any (w : World) (m : Int) (h0 : 0 ≤ m) (h1 : m ≤ 4095) : Calls Tryz.prog 45 #[.int .i64 m, .int .i64 1] w fun e w' => e = .returned (.int .i64 (m / 64 % 8)) ∧ Below w.heap.size w w' := by
  have HB := Lib.hid (mnew w (.cells #[.int .i64 512, .int .i64 64, .int .i64 8, .int .i64 1] 104))
  go_enter Tryz.func45, Tryz.ntmps45
  go_wp2_with fail
  go_ret
  exact ⟨rfl, HB.out⟩
theorem digit2_any (w : World) (m : Int) (h0 : 0 ≤ m) (h1 : m ≤ 4095) : Calls Tryz.prog 45 #[.int .i64 m, .int .i64 2] w fun e w' => e = .returned (.int .i64 (m / 8 % 8)) ∧ Below w.heap.size w w' := by
  have HB := Lib.hid (mnew w (.cells #[.int .i64 512, .int .i64 64, .int .i64 8, .int .i64 1] 104))
  go_enter Tryz.func45, Tryz.ntmps45
  go_wp2_with fail
  go_ret
  exact ⟨rfl, HB.out⟩
theorem digit3_any (w : World) (m : Int) (h0 : 0 ≤ m) (h1 : m ≤ 4095) : Calls Tryz.prog 45 #[.int .i64 m, .int .i64 3] w fun e w' => e = .returned (.int .i64 (m % 8)) ∧ Below w.heap.size w w' := by
  have HB := Lib.hid (mnew w (.cells #[.int .i64 512, .int .i64 64, .int .i64 8, .int .i64 1] 104))
  have e : m / 1 % 8 = m % 8 := by omega
  go_enter Tryz.func45, Tryz.ntmps45
  go_wp2_with fail
  go_ret
  exact ⟨ret_num (by omega), HB.out⟩

/-- Where has stands. -/
def HasAt (d w : Int) (v : Value) : Prop :=
  v = .int .i64 4 ∨ (v = .int .i64 2 ∧ hasB d w = (!(decide (w / 2 % 2 = 1) && decide (d / 2 % 2 = 0)) && !(decide (w / 1 % 2 = 1) && decide (d / 1 % 2 = 0)))) ∨
    (v = .int .i64 1 ∧ hasB d w = !(decide (w / 1 % 2 = 1) && decide (d / 1 % 2 = 0))) ∨ (v = .int .i64 0 ∧ hasB d w = true)
theorem eqB_true {a b : Int} (h : a = b) : (a == b) = true ∧ decide (a = b) = true := ⟨by simp [h], by simp [h]⟩
theorem eqB_false {a b : Int} (h : ¬ a = b) : (a == b) = false ∧ decide (a = b) = false ∧ (a != b) = true := ⟨by simp [h], by simp [h], by simp [h]⟩
set_option maxHeartbeats 1000000 in
theorem mhas_any (w : World) (d x : Int) (d0 : 0 ≤ d) (d1 : d ≤ 7) (x0 : 0 ≤ x) (x1 : x ≤ 7) : Calls Tryz.prog 46 #[.int .i64 d, .int .i64 x] w fun e w' => e = .returned (.bool (hasB d x)) ∧ w = w' := by
  go_enter Tryz.func46, Tryz.ntmps46
  go_wp2_with fail
  go_loop [5] (fun v => HasAt d x v) (fun v => (intOf v).toNat)
  case atStart => exact .inl rfl
  case round =>
    rcases hrel with rfl | ⟨rfl, hh⟩ | ⟨rfl, hh⟩ | ⟨rfl, hh⟩
    · by_cases h1 : x / 4 % 2 = 1
      · by_cases h2 : d / 4 % 2 = 0
        · have HH : Hid (hasB d x = false) := Lib.hid (by unfold hasB; simp [h1, h2])
          go_wp2_with fail
          go_ret
          exact ⟨ret_bool HH.out.symm, rfl⟩
        · have HH : Hid (hasB d x = (!(decide (x / 2 % 2 = 1) && decide (d / 2 % 2 = 0)) && !(decide (x / 1 % 2 = 1) && decide (d / 1 % 2 = 0)))) := Lib.hid (by unfold hasB; simp [h1, h2])
          obtain ⟨q1, q2, q3⟩ := eqB_false h2
          clear h2
          go_wp2_with fail
          go_round
          case rel => exact .inr (.inl ⟨rfl, HH.out⟩)
          case measure => simp [intOf]
      · have HH : Hid (hasB d x = (!(decide (x / 2 % 2 = 1) && decide (d / 2 % 2 = 0)) && !(decide (x / 1 % 2 = 1) && decide (d / 1 % 2 = 0)))) := Lib.hid (by unfold hasB; simp [h1])
        obtain ⟨q1, q2, q3⟩ := eqB_false h1
        clear h1
        go_wp2_with fail
        go_round
        case rel => exact .inr (.inl ⟨rfl, HH.out⟩)
        case measure => simp [intOf]
    · by_cases h1 : x / 2 % 2 = 1
      · by_cases h2 : d / 2 % 2 = 0
        · have HH : Hid (hasB d x = false) := Lib.hid (by rw [hh]; simp [h1, h2])
          clear hh
          go_wp2_with fail
          go_ret
          exact ⟨ret_bool HH.out.symm, rfl⟩
        · have HH : Hid (hasB d x = !(decide (x / 1 % 2 = 1) && decide (d / 1 % 2 = 0))) := Lib.hid (by rw [hh]; simp [h1, h2])
          obtain ⟨q1, q2, q3⟩ := eqB_false h2
          clear h2 hh
          go_wp2_with fail
          go_round
          case rel => exact .inr (.inr (.inl ⟨rfl, HH.out⟩))
          case measure => simp [intOf]
      · have HH : Hid (hasB d x = !(decide (x / 1 % 2 = 1) && decide (d / 1 % 2 = 0))) := Lib.hid (by rw [hh]; simp [h1])
        obtain ⟨q1, q2, q3⟩ := eqB_false h1
        clear h1 hh
        go_wp2_with fail
        go_round
        case rel => exact .inr (.inr (.inl ⟨rfl, HH.out⟩))
        case measure => simp [intOf]
    · by_cases h1 : x / 1 % 2 = 1
      · by_cases h2 : d / 1 % 2 = 0
        · have HH : Hid (hasB d x = false) := Lib.hid (by rw [hh, decide_eq_true h1, decide_eq_true h2]; rfl)
          clear hh
          go_wp2_with fail
          go_ret
          exact ⟨ret_bool HH.out.symm, rfl⟩
        · have HH : Hid (hasB d x = true) := Lib.hid (by rw [hh, decide_eq_true h1, decide_eq_false h2]; rfl)
          obtain ⟨q1, q2, q3⟩ := eqB_false h2
          clear h2 hh
          go_wp2_with fail
          go_round
          case rel => exact .inr (.inr (.inr ⟨rfl, HH.out⟩))
          case measure => simp [intOf]
      · have HH : Hid (hasB d x = true) := Lib.hid (by rw [hh, decide_eq_false h1]; rfl)
        obtain ⟨q1, q2, q3⟩ := eqB_false h1
        clear h1 hh
        go_wp2_with fail
        go_round
        case rel => exact .inr (.inr (.inr ⟨rfl, HH.out⟩))
        case measure => simp [intOf]
    · have HH := Lib.hid hh
      clear hh
      go_wp2_with fail
      go_ret
      exact ⟨ret_bool HH.out.symm, rfl⟩

/-- Where Cut stands. -/
def CutAt (m : Int) (ds : List Int) (mv iv : Value) : Prop := ∃ k : Nat, k ≤ ds.length ∧ iv = .int .i64 k ∧ mv = .int .i64 ((ds.take k).foldl (fun a d => bits .andNot .i64 a d) m)
theorem foldl_take {α : Type} (f : α → Int → α) (a : α) (l : List Int) (k : Nat) (x : Int) (h : l[k]? = some x) : (l.take (k + 1)).foldl f a = f ((l.take k).foldl f a) x := by
  rw [List.take_add_one, h]
  simp
set_option maxHeartbeats 1000000 in
theorem mcut_any (w : World) (m : Int) (A : Option Addr) (n c : Nat) (ds : List Int) (hd : MIn w A n c ds) : Calls Tryz.prog 104 #[.int .i64 m, .slice A n c] w fun e w' => e = .returned (.int .i64 (cutL m ds)) ∧ w = w' := by
  by_cases hm : 0 ≤ m ∧ m ≤ 4095
  · have HM := Lib.hid hm
    have HD := Lib.hid hd
    have hbig := hd.big
    obtain ⟨L, hL⟩ : ∃ L, L = ds.length := ⟨_, rfl⟩
    have hnL : n = L := by rw [hL]; exact hd.len.symm
    have HL := Lib.hid hL
    clear hm hd hL
    subst hnL
    go_enter Tryz.func104, Tryz.ntmps104
    go_wp2_with (go_at_call 111; ((with_reducible refine (isMode_yes _ m HM.out.1 HM.out.2).mono ?_); rintro e w' ⟨rfl, rfl⟩))
    go_loop [0, 12] (fun mv iv => CutAt m ds mv iv) (fun _ iv => n - (intOf iv).toNat)
    case atStart => exact ⟨0, Nat.zero_le _, rfl, rfl⟩
    case round =>
      obtain ⟨k, hk, rfl, rfl⟩ := hrel
      by_cases hlt : k < n
      · obtain ⟨b, o, rfl, hb, hc⟩ := HD.out.cells (by omega)
        obtain ⟨x, hx⟩ : ∃ x, ds[k]? = some x := ⟨_, List.getElem?_eq_getElem (by have := HL.out; omega)⟩
        have hcell := hc k x hx
        have HF := Lib.hid (foldl_take (fun a d => bits .andNot .i64 a d) m ds k x hx)
        have HK : Hid (k + 1 ≤ ds.length) := Lib.hid (by have := HL.out; omega)
        clear hc hx hk
        obtain ⟨z, hz⟩ : ∃ z, z = (ds.take k).foldl (fun a d => bits .andNot .i64 a d) m := ⟨_, rfl⟩
        have HZ := Lib.hid hz
        rw [← hz]
        clear hz
        go_wp2_with fail
        go_round
        case rel => exact ⟨k + 1, HK.out, by go_num, by rw [HF.out, ← HZ.out]⟩
        case measure => simp [intOf]; omega
      · have HF : Hid ((ds.take k).foldl (fun a d => bits .andNot .i64 a d) m = cutL m ds) := Lib.hid (by
          rw [List.take_of_length_le (by have := HL.out; omega)]
          unfold cutL
          rw [if_pos HM.out])
        clear hk
        go_wp2_with fail
        go_ret
        exact ⟨ret_num HF.out, rfl⟩
  · have e : cutL m ds = 0 := by unfold cutL; rw [if_neg hm]
    rw [e]
    have HM : Hid (m < 0 ∨ 4095 < m) := Lib.hid (by omega)
    clear hm hd e
    go_enter Tryz.func104, Tryz.ntmps104
    go_wp2_with (go_at_call 111; ((with_reducible refine (isMode_no _ m HM.out).mono ?_); rintro e w' ⟨rfl, rfl⟩))
    go_ret
    exact ⟨rfl, rfl⟩

/-- A list's first wants may all be done. -/
def mayAll (d : Int) (ws : List Int) : Bool := ws.all fun x => decide (bits .andNot .i64 x d = 0)
theorem mayAll_snoc {d x : Int} {ws : List Int} {k : Nat} (h : mayAll d (ws.take k) = true) (hx : ws[k]? = some x) (h0 : bits .andNot .i64 x d = 0) : mayAll d (ws.take (k + 1)) = true := by
  unfold mayAll at h ⊢
  rw [List.take_add_one, hx, List.all_append, h]
  simp [h0]
theorem mayAll_stop {d x : Int} {ws : List Int} {k : Nat} (hx : ws[k]? = some x) (h0 : ¬ bits .andNot .i64 x d = 0) : mayAll d ws = false := by
  unfold mayAll
  rw [List.all_eq_false]
  exact ⟨x, List.mem_of_getElem? hx, by simpa using h0⟩
/-- Where Can stands. -/
def CanAt (d : Int) (ws : List Int) (iv : Value) : Prop := ∃ k : Nat, k ≤ ws.length ∧ iv = .int .i64 k ∧ mayAll d (ws.take k) = true
theorem can_bad {k m o g who group : Int} {ws : List Int} (h : chk k m o g ≠ 0) : canB k m o g who group ws = false := by unfold canB; simp [h]
theorem can_who {k m o g who group : Int} {ws : List Int} (h : who < 0 ∨ 65535 < who) : canB k m o g who group ws = false := by
  unfold canB whoB
  have : (decide (0 ≤ who) && decide (who ≤ 65535)) = false := by rw [Bool.and_eq_false_iff, decide_eq_false_iff_not, decide_eq_false_iff_not]; omega
  rw [this]
  simp
theorem can_group {k m o g who group : Int} {ws : List Int} (h : group < 0 ∨ 65535 < group) : canB k m o g who group ws = false := by
  unfold canB whoB
  have : (decide (0 ≤ group) && decide (group ≤ 65535)) = false := by rw [Bool.and_eq_false_iff, decide_eq_false_iff_not, decide_eq_false_iff_not]; omega
  rw [this]
  simp
theorem can_may {k m o g who group : Int} {ws : List Int} (h : chk k m o g = 0) (h0 : 0 ≤ who) (h1 : who ≤ 65535) (h2 : 0 ≤ group) (h3 : group ≤ 65535) : canB k m o g who group ws = mayAll (gr m o g who group) ws := by
  unfold canB whoB mayAll
  simp [h, h0, h1, h2, h3]
theorem check_ok (w : World) {k m o g : Int} (h : chk k m o g = 0) : Calls Tryz.prog 103 #[stv k m o g] w fun e w' => e = .returned (.int .i64 0) ∧ Below w.heap.size w w' := by
  have := mcheck_any w k m o g
  rwa [h] at this
theorem check_bad (w : World) {k m o g : Int} (h : chk k m o g ≠ 0) : Calls Tryz.prog 103 #[stv k m o g] w fun e w' => ∃ z, e = .returned (.int .i64 z) ∧ z = chk k m o g ∧ Below w.heap.size w w' :=
  (mcheck_any w k m o g).mono fun e w' h => ⟨_, h.1, rfl, h.2⟩
theorem rcheck_ok (w : World) {k m o g : Int} (h : chk k m o g = 0) : Calls Tryz.prog 44 #[stv k m o g] w fun e w' => e = .returned (.int .i64 0) ∧ Below w.heap.size w w' := by
  have := mrcheck_any w k m o g
  rwa [h] at this
theorem rcheck_bad (w : World) {k m o g : Int} (h : chk k m o g ≠ 0) : Calls Tryz.prog 44 #[stv k m o g] w fun e w' => ∃ z, e = .returned (.int .i64 z) ∧ z = chk k m o g ∧ Below w.heap.size w w' :=
  (mrcheck_any w k m o g).mono fun e w' h => ⟨_, h.1, rfl, h.2⟩

end Go.Proofs.YtlpljedacohngaaGreatDoor
end

/-
  Refusal and Safe, the document's Refusal and Can. No condition but those in each.
-/

section
set_option linter.unusedSimpArgs false
set_option linter.unusedVariables false
set_option maxRecDepth 100000
namespace Go.Proofs.YtlpljedacohngaaGreatDoor
open Go.RowKit

theorem refuse_bad {k m o g : Int} (h : chk k m o g ≠ 0) : refuse k m o g = chk k m o g := by unfold refuse; rw [if_pos h]
theorem refuse_type {k m o g : Int} (h : chk k m o g = 0) (h2 : 2 < k) : refuse k m o g = 17 := by unfold refuse; rw [if_neg (by omega), if_pos h2]
theorem refuse_link {k m o g : Int} (h : chk k m o g = 0) (h2 : k = 2) : refuse k m o g = if cutL m [2048, 1024] = m then 0 else 11 := by
  have hm := (chk_zero h).2.1
  have := cut_two_int hm.1 hm.2
  unfold refuse
  rw [if_neg (by omega), if_neg (by omega)]
  have e : decide (k < 2) = false := by simp; omega
  rw [e]
  by_cases hc : cutL m [2048, 1024] = m
  · rw [if_pos hc, this.1 hc]
    rfl
  · rw [if_neg hc]
    cases hs : setB m with
    | false => exact absurd (this.2 hs) hc
    | true => rfl
theorem refuse_file {k m o g : Int} (h : chk k m o g = 0) (h2 : k < 2) : refuse k m o g = if cutL (cutL m [16, 2]) [2048, 1024] = m then 0 else 11 := by
  have hm := (chk_zero h).2.1
  have := cut_four_int hm.1 hm.2
  unfold refuse
  rw [if_neg (by omega), if_neg (by omega), decide_eq_true h2, Bool.true_and]
  by_cases hc : cutL (cutL m [16, 2]) [2048, 1024] = m
  · rw [if_pos hc, (this.1 hc).1, (this.1 hc).2]
    rfl
  · rw [if_neg hc]
    cases hs : setB m with
    | true => rfl
    | false =>
      cases hw : wrB m with
      | true => rfl
      | false => exact absurd (this.2 ⟨hs, hw⟩) hc

set_option maxHeartbeats 2000000 in
theorem refusal_link (w : World) (m o g : Int) (hc : chk 2 m o g = 0) : Calls Tryz.prog 87 #[stv 2 m o g] w fun e w' => e = .returned (.int .i64 (refuse 2 m o g)) ∧ Below w.heap.size w w' := by
  have HB := Lib.hid (mnew w (.cells #[.int .i64 2, .int .i64 m, .int .i64 o, .int .i64 g] 130))
  rw [refuse_link hc rfl]
  obtain ⟨c, hcc⟩ : ∃ c, cutL m [2048, 1024] = c := ⟨_, rfl⟩
  rw [hcc]
  have HC := Lib.hid (And.intro hc hcc)
  clear hc hcc
  by_cases he : c = m
  · rw [if_pos he]
    obtain rfl : m = c := he.symm
    go_enter Tryz.func87, Tryz.ntmps87
    go_wp2_with (first
      | (go_at_call 103; ((with_reducible refine (check_ok _ HC.out.1).mono ?_); rintro e w1 ⟨rfl, h1⟩; obtain ⟨e0, e1, e2, e3⟩ := ((Box.new w 130 2 m o g).below h1).cells; have hlt : w.heap.size < w1.heap.size := (by have := h1.size; simp at this; omega); have H1 := Lib.hid (mthen HB.out h1); clear h1))
      | (go_at_call 104; refine (mcut_any _ m _ 2 2 [2048, 1024] (MIn.two1 _ _ _ 2048 1024 (by omega) (by omega) (by omega) (by omega))).mono ?_; rintro e w' ⟨rfl, rfl⟩; rw [HC.out.2]))
    go_ret
    exact ⟨rfl, (H1.out.alloc (by have := H1.out.size; omega) _).alloc (by have := H1.out.size; simp; omega) _⟩
  · rw [if_neg he]
    obtain ⟨q1, q2, q3⟩ := eqB_false he
    clear he
    go_enter Tryz.func87, Tryz.ntmps87
    go_wp2_with (first
      | (go_at_call 103; ((with_reducible refine (check_ok _ HC.out.1).mono ?_); rintro e w1 ⟨rfl, h1⟩; obtain ⟨e0, e1, e2, e3⟩ := ((Box.new w 130 2 m o g).below h1).cells; have hlt : w.heap.size < w1.heap.size := (by have := h1.size; simp at this; omega); have H1 := Lib.hid (mthen HB.out h1); clear h1))
      | (go_at_call 104; refine (mcut_any _ m _ 2 2 [2048, 1024] (MIn.two1 _ _ _ 2048 1024 (by omega) (by omega) (by omega) (by omega))).mono ?_; rintro e w' ⟨rfl, rfl⟩; rw [HC.out.2]))
    go_ret
    exact ⟨rfl, (H1.out.alloc (by have := H1.out.size; omega) _).alloc (by have := H1.out.size; simp; omega) _⟩
set_option maxHeartbeats 4000000 in
theorem refusal_file (w : World) (k m o g : Int) (hk : k = 0 ∨ k = 1) (hc : chk k m o g = 0) : Calls Tryz.prog 87 #[stv k m o g] w fun e w' => e = .returned (.int .i64 (refuse k m o g)) ∧ Below w.heap.size w w' := by
  have HB := Lib.hid (mnew w (.cells #[.int .i64 k, .int .i64 m, .int .i64 o, .int .i64 g] 130))
  rw [refuse_file hc (by omega)]
  obtain ⟨c1, hc1⟩ : ∃ c1, cutL m [16, 2] = c1 := ⟨_, rfl⟩
  rw [hc1]
  obtain ⟨c, hcc⟩ : ∃ c, cutL c1 [2048, 1024] = c := ⟨_, rfl⟩
  rw [hcc]
  have HC := Lib.hid (And.intro hc (And.intro hc1 hcc))
  clear hc hcc hc1
  by_cases he : c = m
  · rw [if_pos he]
    obtain rfl : m = c := he.symm
    rcases hk with rfl | rfl
    all_goals
      go_enter Tryz.func87, Tryz.ntmps87
      go_wp2_with fail
      with_reducible refine (check_ok _ HC.out.1).mono ?_
      rintro e w1 ⟨rfl, h1⟩
      obtain ⟨e0, e1, e2, e3⟩ := ((Box.new w 130 _ m o g).below h1).cells
      have hlt : w.heap.size < w1.heap.size := by have := h1.size; simp at this; omega
      have hlt1 : w.heap.size < w1.heap.size + 1 := by omega
      have hlt2 : w.heap.size < w1.heap.size + 1 + 1 := by omega
      have H1 := Lib.hid (mthen HB.out h1)
      clear h1
      go_wp2_with fail
      refine (mcut_any _ m _ 2 2 [16, 2] (MIn.two1 _ _ _ 16 2 (by omega) (by omega) (by omega) (by omega))).mono ?_
      rintro e w' ⟨rfl, rfl⟩
      rw [HC.out.2.1]
      go_wp2_with fail
      refine (mcut_any _ c1 _ 2 2 [2048, 1024] (MIn.two2 _ _ _ _ 2048 1024 (by omega) (by omega) (by omega) (by omega))).mono ?_
      rintro e w' ⟨rfl, rfl⟩
      rw [HC.out.2.2]
      go_wp2_with fail
      go_ret
      exact ⟨rfl, ((H1.out.alloc (by have := H1.out.size; omega) _).alloc (by have := H1.out.size; simp; omega) _).alloc (by have := H1.out.size; simp; omega) _⟩
  · rw [if_neg he]
    obtain ⟨q1, q2, q3⟩ := eqB_false he
    clear he
    rcases hk with rfl | rfl
    all_goals
      go_enter Tryz.func87, Tryz.ntmps87
      go_wp2_with fail
      with_reducible refine (check_ok _ HC.out.1).mono ?_
      rintro e w1 ⟨rfl, h1⟩
      obtain ⟨e0, e1, e2, e3⟩ := ((Box.new w 130 _ m o g).below h1).cells
      have hlt : w.heap.size < w1.heap.size := by have := h1.size; simp at this; omega
      have hlt1 : w.heap.size < w1.heap.size + 1 := by omega
      have hlt2 : w.heap.size < w1.heap.size + 1 + 1 := by omega
      have H1 := Lib.hid (mthen HB.out h1)
      clear h1
      go_wp2_with fail
      refine (mcut_any _ m _ 2 2 [16, 2] (MIn.two1 _ _ _ 16 2 (by omega) (by omega) (by omega) (by omega))).mono ?_
      rintro e w' ⟨rfl, rfl⟩
      rw [HC.out.2.1]
      go_wp2_with fail
      refine (mcut_any _ c1 _ 2 2 [2048, 1024] (MIn.two2 _ _ _ _ 2048 1024 (by omega) (by omega) (by omega) (by omega))).mono ?_
      rintro e w' ⟨rfl, rfl⟩
      rw [HC.out.2.2]
      go_wp2_with fail
      go_ret
      exact ⟨rfl, ((H1.out.alloc (by have := H1.out.size; omega) _).alloc (by have := H1.out.size; simp; omega) _).alloc (by have := H1.out.size; simp; omega) _⟩

set_option maxHeartbeats 1000000 in
theorem refusal_type (w : World) (k m o g : Int) (hk : 2 < k) (hc : chk k m o g = 0) : Calls Tryz.prog 87 #[stv k m o g] w fun e w' => e = .returned (.int .i64 (refuse k m o g)) ∧ Below w.heap.size w w' := by
  have HB := Lib.hid (mnew w (.cells #[.int .i64 k, .int .i64 m, .int .i64 o, .int .i64 g] 130))
  rw [refuse_type hc hk]
  obtain ⟨a1, a2, a3⟩ := eqB_false (show ¬ k = 0 by omega)
  obtain ⟨b1, b2, b3⟩ := eqB_false (show ¬ k = 1 by omega)
  obtain ⟨d1, d2, d3⟩ := eqB_false (show ¬ k = 2 by omega)
  have HC := Lib.hid hc
  clear hc hk
  go_enter Tryz.func87, Tryz.ntmps87
  go_wp2_with fail
  with_reducible refine (check_ok _ HC.out).mono ?_
  rintro e w1 ⟨rfl, h1⟩
  obtain ⟨e0, e1, e2, e3⟩ := ((Box.new w 130 _ m o g).below h1).cells
  have hlt : w.heap.size < w1.heap.size := by have := h1.size; simp at this; omega
  have H1 := Lib.hid (mthen HB.out h1)
  clear h1
  go_wp2_with fail
  go_ret
  exact ⟨rfl, H1.out.alloc (by have := H1.out.size; omega) _⟩
theorem refusal_bad (w : World) (k m o g : Int) (hc : chk k m o g ≠ 0) : Calls Tryz.prog 87 #[stv k m o g] w fun e w' => e = .returned (.int .i64 (refuse k m o g)) ∧ Below w.heap.size w w' := by
  have HB := Lib.hid (mnew w (.cells #[.int .i64 k, .int .i64 m, .int .i64 o, .int .i64 g] 130))
  rw [refuse_bad hc]
  have HC := Lib.hid hc
  clear hc
  go_enter Tryz.func87, Tryz.ntmps87
  go_wp2_with fail
  with_reducible refine (check_bad _ HC.out).mono ?_
  rintro e w1 ⟨z, rfl, hz, h1⟩
  obtain ⟨q1, q2, q3⟩ := eqB_false (show ¬ z = 0 by rw [hz]; exact HC.out)
  have HZ := Lib.hid hz
  have H1 := Lib.hid (mthen HB.out h1)
  clear h1 hz
  go_wp2_with fail
  go_ret
  exact ⟨ret_num HZ.out, H1.out⟩
theorem refusal_any (w : World) (k m o g : Int) : Calls Tryz.prog 87 #[stv k m o g] w fun e w' => e = .returned (.int .i64 (refuse k m o g)) ∧ Below w.heap.size w w' := by
  by_cases hc : chk k m o g = 0
  · have hk := (chk_zero hc).1
    by_cases h2 : 2 < k
    · exact refusal_type w k m o g h2 hc
    · by_cases e2 : k = 2
      · subst e2
        exact refusal_link w m o g hc
      · exact refusal_file w k m o g (by omega) hc
  · exact refusal_bad w k m o g hc
theorem safe_any (w : World) (k m o g : Int) : Calls Tryz.prog 72 #[stv k m o g] w fun e w' => e = .returned (.bool (decide (refuse k m o g = 0))) ∧ Below w.heap.size w w' := by
  have HB := Lib.hid (mnew w (.cells #[.int .i64 k, .int .i64 m, .int .i64 o, .int .i64 g] 130))
  go_enter Tryz.func72, Tryz.ntmps72
  go_wp2_with fail
  with_reducible refine (refusal_any _ _ _ _ _).mono ?_
  rintro e w1 ⟨rfl, h1⟩
  have H1 := Lib.hid (mthen HB.out h1)
  clear h1
  go_wp2_with fail
  go_ret
  exact ⟨ret_bool (by first | rfl | (rw [Bool.eq_iff_iff]; simp)), H1.out⟩
end Go.Proofs.YtlpljedacohngaaGreatDoor
end

/-
  Framed, and the document's own Frame. Conditions: the texts are known, of at most 300 bytes; the constants lie in their variable.
-/

section
set_option maxRecDepth 100000
set_option linter.unusedSimpArgs false
set_option linter.unusedVariables false
namespace Go.Proofs.YtlpljedacohngaaGreatDoor
open Go.RowKit

/-- A length as four bytes. -/
def fr (n : Nat) : List B8 := [BitVec.ofNat 8 (n / 16777216), BitVec.ofNat 8 (n / 65536), BitVec.ofNat 8 (n / 256), BitVec.ofNat 8 n]
def framesOf (X : List (List B8)) : List B8 := (X.map fun x => fr x.length ++ x).flatten
theorem frames_take {X : List (List B8)} {k : Nat} {x : List B8} (h : X[k]? = some x) : framesOf (X.take (k + 1)) = framesOf (X.take k) ++ fr x.length ++ x := by
  obtain ⟨hi, rfl⟩ := List.getElem?_eq_some_iff.1 h
  unfold framesOf
  rw [List.take_succ_eq_append_getElem hi, List.map_append, List.flatten_append]
  simp
theorem frames_small (X : List (List B8)) (h : ∀ x ∈ X, x.length ≤ 300) : (framesOf X).length ≤ 304 * X.length := by
  induction X with
  | nil => simp [framesOf]
  | cons x X ih =>
    have h1 := ih fun y hy => h y (by simp [hy])
    have h2 := h x (by simp)
    unfold framesOf at *
    simp only [List.map_cons, List.flatten_cons, List.length_append, List.length_cons]
    have : (fr x.length).length = 4 := rfl
    omega
theorem frames_small_take (X : List (List B8)) (h : ∀ x ∈ X, x.length ≤ 300) (k : Nat) (hk : k ≤ X.length) : (framesOf (X.take k)).length ≤ 304 * k := by
  have := frames_small (X.take k) fun x hx => h x (List.mem_of_mem_take hx)
  rw [List.length_take] at this
  omega
theorem frames_small_1k (X : List (List B8)) (h : ∀ x ∈ X, x.length ≤ 1000) : (framesOf X).length ≤ 1004 * X.length := by
  induction X with
  | nil => simp [framesOf]
  | cons x X ih =>
    have h1 := ih fun y hy => h y (by simp [hy])
    have h2 := h x (by simp)
    unfold framesOf at *
    simp only [List.map_cons, List.flatten_cons, List.length_append, List.length_cons]
    have : (fr x.length).length = 4 := rfl
    omega
theorem frames_small_take_1k (X : List (List B8)) (h : ∀ x ∈ X, x.length ≤ 1000) (k : Nat) (hk : k ≤ X.length) : (framesOf (X.take k)).length ≤ 1004 * k := by
  have := frames_small_1k (X.take k) fun x hx => h x (List.mem_of_mem_take hx)
  rw [List.length_take] at this
  omega
theorem nb_of (n : Nat) : nb (BitVec.ofNat 8 n) = ((n % 256 : Nat) : Int) := by
  unfold nb
  rw [BitVec.toNat_ofNat]
theorem fr_cells (n : Nat) (hn : n < 4294967296) : [Value.int .u8 ((n : Int) / 16777216), .int .u8 ((n : Int) / 65536 % 256), .int .u8 ((n : Int) / 256 % 256), .int .u8 ((n : Int) % 256)] = Vb (fr n) := by
  unfold fr Vb
  simp only [List.map_cons, List.map_nil, nb_of]
  have h0 : (n : Int) / 16777216 = ((n / 16777216 % 256 : Nat) : Int) := by omega
  have h1 : (n : Int) / 65536 % 256 = ((n / 65536 % 256 : Nat) : Int) := by omega
  have h2 : (n : Int) / 256 % 256 = ((n / 256 % 256 : Nat) : Int) := by omega
  have h3 : (n : Int) % 256 = ((n % 256 : Nat) : Int) := by omega
  rw [h0, h1, h2, h3]

theorem slice4 (b : Nat) (W : World) : (Instr.sliceAt 121 (.pointer (some ⟨b, 0, none⟩)) none none none).run Tryz.prog W = .ok (.slice (some ⟨b, 0, none⟩) 4 4) W := by
  have hl : Tryz.prog.arrayLen 121 = 4 := by kernel_rfl
  have he : Tryz.prog.elem 121 = 5 := by kernel_rfl
  have hs : (sizeOf 5).run Tryz.prog W = .ok 1 W := by kernel_rfl
  have h := run_sliceAt_array_all (P := Tryz.prog) W 121 ⟨b, 0, none⟩ (by rw [hl, he]; exact Tryz.underlying121)
  rw [h, he, hs, hl]
  simp only [Result.andThen_ok, slicedAt]
  rw [if_neg (by omega), Addr.add_mid]
theorem info62 : (Tryz.prog.info? 121).map (·.size) = some 4 := by kernel_rfl

theorem Txt.away {w0 w : World} {p q : Nat} {A : Option Addr} {n c : Nat} {bs : List B8} (h : Txt w p A n c bs) (hq : q = w0.heap.size + 1) (h0 : Txt w0 p A n c bs) : Txt w q A n c bs := by
  refine ⟨h.len, h.cap, h.capm, fun hn => ?_⟩
  obtain ⟨g, o, hA, hg, hc⟩ := h.cells hn
  obtain ⟨g', o', hA', _, hc'⟩ := h0.cells hn
  rw [hA] at hA'
  simp only [Option.some.injEq, Addr.mk.injEq, and_true] at hA'
  obtain ⟨rfl, rfl⟩ := hA'
  have : g < w0.heap.size := World.block_lt_of_cell? w0 _ (hc' 0 hn)
  exact ⟨g, o, hA, by omega, hc⟩

set_option maxHeartbeats 1000000 in
set_option maxRecDepth 100000 in
theorem framed_1k (ks : List B32) (w : World) (L : Option Addr) (n c : Nat) (xs : List (List B8)) (hK : Roots ks w) (ht : Txts w w.heap.size L n xs) (hn : n ≤ 40) (hsm : ∀ x ∈ xs, x.length ≤ 1000) :
    Calls Tryz.prog 50 #[.slice L n c] w fun e w' => e = .returned (.agg (Vb (sha ks (framesOf xs))).toArray) ∧ Below w.heap.size w w' := by
  have hpos := hK.pos
  have hz := zero44
  have hb : Below w.heap.size w ((w.alloc (.cells (List.replicate 32 (Value.int .u8 0)).toArray 74)).alloc (.cells zeroCells.toArray 120)) := ((Below.refl _ _).alloc (Nat.le_refl _) _).alloc (by simp) _
  have hr := (Blk.new w 74 (List.replicate 32 (.int .u8 0))).alloc (.cells zeroCells.toArray 120)
  have h1 : IsStr ks ((w.alloc (.cells (List.replicate 32 (Value.int .u8 0)).toArray 74)).alloc (.cells zeroCells.toArray 120)) (w.heap.size + 1) [] := zero_str ks (blk_two w 74 120 (List.replicate 32 (.int .u8 0)) zeroCells)
  have H := Lib.hid (And.intro hb (And.intro hr (And.intro h1 (And.intro hK (And.intro ht hsm)))))
  clear hb hr h1 hK ht hsm
  go_enter Tryz.func50, Tryz.ntmps50
  go_wp2_with fail
  go_loopw [9] (fun i wr => ∃ k : Nat, k ≤ n ∧ i = .int .i64 k ∧ IsStr ks wr (w.heap.size + 1) (framesOf (xs.take k)) ∧ Blk wr w.heap.size 74 (List.replicate 32 (.int .u8 0)) ∧ Below w.heap.size w wr) (fun i _ => n - (intOf i).toNat)
  case atStart => exact ⟨0, by omega, rfl, H.out.2.2.1, H.out.2.1, H.out.1⟩
  case round =>
    obtain ⟨k, hk, rfl, hs, hres, hbel⟩ := hrel
    have hl := H.out.2.2.2.2.1.len
    have hsk := frames_small_take_1k xs H.out.2.2.2.2.2 k (by omega)
    by_cases hkn : k < n
    · obtain ⟨g, o, rfl, hgp, hc⟩ := H.out.2.2.2.2.1.cells (by omega)
      obtain ⟨A, m, cc, hcell, htx⟩ := hc k (xs[k]'(by omega)) (List.getElem?_eq_getElem _)
      have hcw := (hbel.cell (World.block_lt_of_cell? w _ hcell)).trans hcell
      have hft := frames_take (X := xs) (k := k) (List.getElem?_eq_getElem (by omega))
      have hm3 := H.out.2.2.2.2.2 _ (List.getElem_mem (l := xs) (n := k) (by omega))
      generalize xs[k]'(by omega) = x at htx hft hm3
      have hml := htx.len
      rw [hml] at hm3
      have HO := Lib.hid (And.intro hs (And.intro hres (And.intro hbel (And.intro htx hft))))
      clear hs hres hbel htx hft hc hcell
      go_wp2_with fail
      refine (frame_any wr m (by omega)).mono ?_
      rintro e w1 ⟨rfl, hb1⟩
      have HB1 := Lib.hid hb1
      clear hb1
      have hs4 := slice4
      go_wp2_with (refine wpList_store_blk rfl 121 (.tmp 6) (.tmp 15) rfl w1.heap.size 0 (Vb (fr m)) rfl (by rw [← fr_cells m (by omega)]; rfl) (Blk.new w1 121 (List.replicate 4 (.int .u8 0))) (by simp [Vb_length, fr]) (info62.trans (by simp [Vb_length, fr])) (Vb_oneCell _) ?_; intro w2 hA hO)
      rw [over_whole (by simp [Vb_length, fr])] at hA
      have hp1 := HO.out.1.lt
      have hs1 := HB1.out.size
      have hA1 : Below w1.heap.size w1 w2 := ((Below.refl _ _).alloc (Nat.le_refl _) _).trans (hO.below (B := w1.heap.size) (by simp) (by simp))
      have hB2 : Below wr.heap.size wr w2 := HB1.out.trans (hA1.mono hs1)
      have ht2 : Txt w2 (w.heap.size + 1) (some ⟨w1.heap.size, 0, none⟩) 4 4 (fr m) := by
        refine ⟨rfl, Nat.le_refl _, by unfold maxLen; omega, fun _ => ⟨w1.heap.size, 0, rfl, by omega, fun j hj => ?_⟩⟩
        rw [Nat.zero_add, hA.cell, Vb_get, List.getD_eq_getElem?_getD, List.getElem?_eq_getElem (by exact hj)]
        rfl
      have HW2 := Lib.hid (And.intro hB2 ht2)
      clear hA hO hA1 hB2 ht2
      refine (tell_any ks w2 (w.heap.size + 1) (framesOf (xs.take k)) (some ⟨w1.heap.size, 0, none⟩) 4 4 (fr m) (by omega) (H.out.2.2.2.1.below (HO.out.2.2.1.trans (HW2.out.1.mono HO.out.2.2.1.size)) hpos) (HO.out.1.below HW2.out.1 hp1) HW2.out.2 (by omega)).mono ?_
      rintro e w3 ⟨rfl, hs3, ho3⟩
      have hB3 : Below w.heap.size w w3 := (HO.out.2.2.1.trans (HW2.out.1.mono HO.out.2.2.1.size)).trans (ho3.below (B := w.heap.size) (HO.out.2.2.1.trans (HW2.out.1.mono HO.out.2.2.1.size)).size (by simp))
      have hR3 := (HO.out.2.1.below HW2.out.1 HO.out.2.1.lt).only ho3 (by simp)
      have H3 := Lib.hid (And.intro hs3 (And.intro hB3 hR3))
      clear hs3 ho3 hB3 hR3
      go_wp2_with fail
      have hf4 : (fr m).length = 4 := rfl
      refine (tell_any ks w3 (w.heap.size + 1) (framesOf (xs.take k) ++ fr m) A m cc x (by omega) (H.out.2.2.2.1.below H3.out.2.1 hpos) H3.out.1 ((HO.out.2.2.2.1.below H3.out.2.1 (Nat.le_refl _)).away (by rfl) HO.out.2.2.2.1) (by rw [List.length_append, hf4]; omega)).mono ?_
      rintro e w4 ⟨rfl, hs4', ho4⟩
      have hB4 : Below w.heap.size w w4 := H3.out.2.1.trans (ho4.below (B := w.heap.size) H3.out.2.1.size (by simp))
      have hR4 := H3.out.2.2.only ho4 (by simp)
      have H4 := Lib.hid (And.intro hs4' (And.intro hB4 hR4))
      clear hs4' ho4 hB4 hR4
      go_wp2_with fail
      go_roundw
      case rel =>
        refine ⟨k + 1, by omega, by go_num, ?_, H4.out.2.2, H4.out.2.1⟩
        rw [HO.out.2.2.2.2, hml]
        exact H4.out.1
      case measure => simp [intOf]; omega
    · obtain rfl : k = n := by omega
      rw [List.take_of_length_le (by omega)] at hs hsk
      have HO := Lib.hid (And.intro hs (And.intro hres hbel))
      clear hs hres hbel
      go_wp2_with fail
      refine (sum_any ks wr (some ⟨w.heap.size + 1, 0, none⟩) (framesOf xs) (H.out.2.2.2.1.below HO.out.2.2 hpos) (.inr ⟨_, rfl, HO.out.1⟩) (by omega)).mono ?_
      rintro e w3 ⟨rfl, hb3⟩
      have hB3 : Below w.heap.size w w3 := HO.out.2.2.trans (hb3.mono HO.out.2.2.size)
      have hR3 := HO.out.2.1.below hb3 HO.out.2.1.lt
      have H3 := Lib.hid (And.intro hB3 hR3)
      clear hb3 hB3 hR3
      go_wp2_with (refine wpList_store_blk rfl 74 (.tmp 2) (.tmp 21) rfl w.heap.size 0 (Vb (sha ks (framesOf xs))) rfl rfl H3.out.2 (by simp [Vb_length, sha_length]) (info31.trans (by simp [Vb_length, sha_length])) (Vb_oneCell _) ?_; intro w5 hA hO)
      rw [over_whole (by simp [Vb_length, sha_length])] at hA
      refine bodyPost_ret (v := .agg (Vb (sha ks (framesOf xs))).toArray) ?_ rfl ⟨rfl, ?_⟩
      · exact ret_cell rfl rfl (run_loadVar_mid _ _ 0 74 _ _ hA.range Tryz.underlying74 rfl (info31.trans (by simp [Vb_length, sha_length])))
      · exact H3.out.1.trans (hO.below (B := w.heap.size) H3.out.1.size (by simp))
theorem framed_any (ks : List B32) (w : World) (L : Option Addr) (n c : Nat) (xs : List (List B8)) (hK : Roots ks w) (ht : Txts w w.heap.size L n xs) (hn : n ≤ 40) (hsm : ∀ x ∈ xs, x.length ≤ 300) :
    Calls Tryz.prog 50 #[.slice L n c] w fun e w' => e = .returned (.agg (Vb (sha ks (framesOf xs))).toArray) ∧ Below w.heap.size w w' :=
  framed_1k ks w L n c xs hK ht hn fun x hx => by
    have := hsm x hx
    omega

end Go.Proofs.YtlpljedacohngaaGreatDoor
end

/-
  The state of a disk as plain data, what the methods make of it, and when memory holds it. Plain definitions and theorems; no condition.
-/

section
set_option maxRecDepth 100000
set_option linter.unusedSimpArgs false
set_option linter.unusedVariables false
namespace Go.Proofs.YtlpljedacohngaaGreatDoor
open Go.RowKit

/-- A disk: power, what it is armed with, laid bytes (64 for each of n sectors), waiting writes, counts. -/
structure St where
  on : Bool
  armed : Bool
  left : Int
  n : Nat
  lc : Nat
  laid : List Int
  tl : List Value
  waits : List (Int × List Int)
  wr : Int
  fl : Int

/-- The cells of the disk's own block. -/
def dk (on armed : Bool) (left : Int) (L n lc : Nat) (wv : Value) (wr fl : Int) : List Value :=
  [.bool on, .bool armed, .int .i64 left, .slice (some ⟨L, 0, none⟩) (64 * n) lc, wv, .int .i64 wr, .int .i64 fl]

/-- The cells of the waiting writes. -/
def W (ws : List (Int × List Int)) : List Value := ws.flatMap fun p => .int .i64 p.1 :: U p.2

structure Good (s : St) : Prop where
  size : s.laid.length = 64 * s.n
  n1 : 1 ≤ s.n
  n2 : s.n ≤ 4096
  sec : ∀ p ∈ s.waits, 0 ≤ p.1 ∧ p.1 < s.n ∧ p.2.length = 64
  left0 : 0 ≤ s.left
  left1 : s.left ≤ 9223372036854775807
  cap : s.waits.length ≤ 1000000
  wr0 : 0 ≤ s.wr
  wr1 : s.wr ≤ 1000000
  fl0 : 0 ≤ s.fl
  fl1 : s.fl ≤ 1000000
  lc0 : 64 * s.n ≤ s.lc

theorem dk_cells {w : World} {D : Nat} {t : TypeId} {on armed : Bool} {left : Int} {L n lc : Nat} {wv : Value} {wr fl : Int} (h : Blk w D t (dk on armed left L n lc wv wr fl)) :
    w.cell? ⟨D, 0, none⟩ = some (.bool on) ∧ w.cell? ⟨D, 1, none⟩ = some (.bool armed) ∧ w.cell? ⟨D, 2, none⟩ = some (.int .i64 left) ∧
    w.cell? ⟨D, 3, none⟩ = some (.slice (some ⟨L, 0, none⟩) (64 * n) lc) ∧ w.cell? ⟨D, 4, none⟩ = some wv ∧
    w.cell? ⟨D, 5, none⟩ = some (.int .i64 wr) ∧ w.cell? ⟨D, 6, none⟩ = some (.int .i64 fl) :=
  ⟨h.cell 0, h.cell 1, h.cell 2, h.cell 3, h.cell 4, h.cell 5, h.cell 6⟩

/-- Laid bytes behind the laying of a sector. -/
def putS (laid : List Int) (k : Nat) (bs : List Int) : List Int := laid.take (64 * k) ++ bs ++ laid.drop (64 * k + 64)
theorem putS_length {laid bs : List Int} {k n : Nat} (hl : laid.length = 64 * n) (hk : k < n) (hb : bs.length = 64) : (putS laid k bs).length = 64 * n := by
  simp [putS]; omega

theorem W_get : ∀ (ws : List (Int × List Int)), (∀ p ∈ ws, p.2.length = 64) → ∀ (i : Nat) (p : Int × List Int), ws[i]? = some p →
    (W ws)[i * 65]? = some (.int .i64 p.1) ∧ ∀ j x, p.2[j]? = some x → (W ws)[i * 65 + 1 + j]? = some (.int .u8 x)
  | [], _, _, _, h => by simp at h
  | q :: ws, hw, i, p, h => by
    have hq : (Value.int .i64 q.1 :: U q.2).length = 65 := by simp [U_length, hw q (by simp)]
    have hW : W (q :: ws) = (Value.int .i64 q.1 :: U q.2) ++ W ws := by simp [W]
    match i, h with
    | 0, h =>
      simp only [List.getElem?_cons_zero, Option.some.injEq] at h
      subst h
      refine ⟨by rw [hW]; simp, fun j x hx => ?_⟩
      have hj : j < q.2.length := (List.getElem?_eq_some_iff.1 hx).1
      have hj2 := hw q (by simp)
      rw [hW, List.getElem?_append_left (by omega), show 0 * 65 + 1 + j = j + 1 by omega, List.getElem?_cons_succ, U_get, hx]
      rfl
    | i + 1, h =>
      simp only [List.getElem?_cons_succ] at h
      obtain ⟨h1, h2⟩ := W_get ws (fun p hp => hw p (by simp [hp])) i p h
      refine ⟨?_, fun j x hx => ?_⟩
      · rw [hW, List.getElem?_append_right (by omega), hq, show (i + 1) * 65 - 65 = i * 65 by omega]; exact h1
      · rw [hW, List.getElem?_append_right (by omega), hq, show (i + 1) * 65 + 1 + j - 65 = i * 65 + 1 + j by omega]; exact h2 j x hx

/-- What is read of a sector: the last waiting write of it, or what is laid. -/
def seen (s : St) (k : Nat) : List Int :=
  match s.waits.reverse.find? (fun p => p.1 == (k : Int)) with
  | some p => p.2
  | none => (s.laid.drop (64 * k)).take 64

/-- What is left behind a write or a flush. -/
def nextLeft (armed : Bool) (left : Int) : Int := if armed = true then left - 1 else left

theorem left_ok {s : St} (hg : Good s) (hs : ¬ (s.armed = true ∧ s.left = 0)) : 0 ≤ nextLeft s.armed s.left ∧ nextLeft s.armed s.left ≤ 9223372036854775807 := by
  unfold nextLeft
  have h0 := hg.left0
  have h1 := hg.left1
  by_cases h : s.armed = true
  · rw [if_pos h]
    have : s.left ≠ 0 := fun e => hs ⟨h, e⟩
    omega
  · rw [if_neg h]; omega

/-- Laid bytes behind the laying of these writes, in order. -/
def layAll (laid : List Int) (ws : List (Int × List Int)) : List Int := ws.foldl (fun l p => putS l p.1.toNat p.2) laid
theorem layAll_snoc (laid : List Int) (ws : List (Int × List Int)) (p : Int × List Int) : layAll laid (ws ++ [p]) = putS (layAll laid ws) p.1.toNat p.2 := by simp [layAll]
theorem layAll_length {n : Nat} : ∀ (ws : List (Int × List Int)) (laid : List Int), laid.length = 64 * n → (∀ p ∈ ws, 0 ≤ p.1 ∧ p.1 < n ∧ p.2.length = 64) → (layAll laid ws).length = 64 * n
  | [], _, h, _ => h
  | p :: ws, laid, h, hw => by
    have := hw p (by simp)
    exact layAll_length ws _ (putS_length h (by omega) this.2.2) (fun q hq => hw q (by simp [hq]))

/-- What Flush makes of a state. -/
def St.flush (s : St) : Int × St :=
  if s.on = false then (9, s)
  else if s.armed = true ∧ s.left = 0 then (9, { s with on := false })
  else (0, { s with left := nextLeft s.armed s.left, laid := layAll s.laid s.waits, waits := [], fl := s.fl + 1 })

/-- What Write makes of a state: the error's number, the state behind it. -/
def St.write (s : St) (no : Int) (bs : List Int) : Int × St :=
  if s.on = false then (9, s)
  else if ¬ (0 ≤ no ∧ no < s.n ∧ bs.length = 64) then (1, s)
  else if s.armed = true ∧ s.left = 0 then (9, { s with on := false })
  else (0, { s with left := nextLeft s.armed s.left, waits := s.waits ++ [(no, bs)], wr := s.wr + 1 })

end Go.Proofs.YtlpljedacohngaaGreatDoor
end

/-
  The small methods of a disk and of its power: what each call does, said of cells. Conditions: the disk's block is known.
-/

section
set_option maxRecDepth 100000
set_option linter.unusedSimpArgs false
set_option linter.unusedVariables false
namespace Go.Proofs.YtlpljedacohngaaGreatDoor
open Go.RowKit

end Go.Proofs.YtlpljedacohngaaGreatDoor
end

/-
  The methods of a disk's power: what each call does to the three cells. Conditions: the disk's block is known.
-/

section
set_option maxRecDepth 100000
set_option linter.unusedSimpArgs false
set_option linter.unusedVariables false
namespace Go.Proofs.YtlpljedacohngaaGreatDoor
open Go.RowKit

end Go.Proofs.YtlpljedacohngaaGreatDoor
end

/-
  Building a waiting write and a slice of one; a sector's bytes loaded as an array. Conditions: 64 bytes; each cell is there.
-/

section
set_option maxRecDepth 100000
set_option linter.unusedSimpArgs false
set_option linter.unusedVariables false
namespace Go.Proofs.YtlpljedacohngaaGreatDoor
open Go.RowKit

theorem fill_two (a b : Value) (cs zs : List Value) (ha : a.cells = #[a]) (hb : b.cells = cs.toArray) (hc : cs.length = 64) (hz : zs.length = 64) (z : Value) :
    Instr.fill (fun i => #[(0, 1), (1, 64)][i]?) (z :: zs).toArray [(0, a), (1, b)] = some (a :: cs).toArray := by
  obtain ⟨g1, g2⟩ := Great.foldl_set 1 cs 0 (a :: zs).toArray
  have e : (#[(0, 1), (1, 64)] : Array (Nat × Nat))[0]? = some (0, 1) := rfl
  have e' : (#[(0, 1), (1, 64)] : Array (Nat × Nat))[1]? = some (1, 64) := rfl
  unfold Instr.fill
  simp only [e, ha]
  rw [if_neg (by simp)]
  unfold Instr.fill
  simp only [e', hb]
  rw [if_neg (by simp [hc, hz])]
  unfold Instr.fill
  have h0 : (#[a].zipIdx.foldl (fun cs (x : Value × Nat) => cs.setIfInBounds (0 + x.2) x.1) (z :: zs).toArray) = (a :: zs).toArray := by simp
  rw [h0, ← Array.foldl_toList, Array.toList_zipIdx]
  congr 1
  apply Array.ext_getElem?
  intro k
  rw [g2 k]
  simp only [List.getElem?_toArray, List.size_toArray, List.length_cons, hz, hc]
  by_cases h : 1 ≤ k ∧ k < 65
  · rw [if_pos ⟨by omega, by omega, by omega⟩]
    obtain ⟨m, rfl⟩ : ∃ m, k = m + 1 := ⟨k - 1, by omega⟩
    rw [List.getElem?_cons_succ]
    congr 1
  · rw [if_neg (by omega)]
    by_cases hk : k = 0
    · subst hk; rfl
    · rw [List.getElem?_eq_none (by simp [hz]; omega), List.getElem?_eq_none (by simp [hc]; omega)]

/-- The 64 cells from a on; are they all there? -/
def read64 (W : World) (a : Addr) : List Value := (List.range 64).map fun i => (W.cell? (a.add i)).getD undef
def all64 (W : World) (a : Addr) : Bool := (List.range 64).all fun i => (W.cell? (a.add i)).isSome
theorem read64_drew (W : World) (a : Addr) : read64 W.drew a = read64 W a := rfl
theorem all64_drew (W : World) (a : Addr) : all64 W.drew a = all64 W a := rfl
theorem read64_of {W : World} {a : Addr} {cs : List Value} (hc : cs.length = 64) (h : ∀ j u, cs[j]? = some u → W.cell? (a.add j) = some u) : all64 W a = true ∧ read64 W a = cs := by
  refine ⟨List.all_eq_true.2 fun i hi => ?_, ?_⟩
  · have hlt : i < cs.length := by rw [hc]; exact List.mem_range.1 hi
    rw [h i _ (List.getElem?_eq_getElem hlt)]; rfl
  · apply List.ext_getElem?
    intro k
    unfold read64
    rw [List.getElem?_map]
    by_cases hk : k < 64
    · have hlt : k < cs.length := by omega
      rw [List.getElem?_range hk, List.getElem?_eq_getElem hlt]
      simp [h k _ (List.getElem?_eq_getElem hlt)]
    · rw [List.getElem?_eq_none (by simp; omega), List.getElem?_eq_none (by omega)]; rfl

theorem run_arrayAt64 (W : World) (a : Addr) (c : Nat) : (Instr.arrayAt 118 (.slice (some a) 64 c)).run Tryz.prog W = .ok (.pointer (some a)) W := by kernel_rfl

theorem run_load64 (W : World) (a : Addr) (h : all64 W a = true) : (Instr.loadAt 118 (.pointer (some a))).run Tryz.prog W = .ok (.agg (read64 W a).toArray) W := by
  have hl := run_loadCells_list (P := Tryz.prog) W a (read64 W a) (fun j v hv => by
    unfold read64 at hv
    rw [List.getElem?_map] at hv
    by_cases hj : j < 64
    · rw [List.getElem?_range hj] at hv
      simp at hv
      have := List.all_eq_true.1 h j (List.mem_range.2 hj)
      obtain ⟨u, hu⟩ := Option.isSome_iff_exists.1 this
      rw [hu] at hv ⊢
      simpa using hv
    · rw [List.getElem?_eq_none (by simp; omega)] at hv
      cases hv)
  have hn : (read64 W a).length = 64 := by simp [read64]
  rw [hn] at hl
  have ha : (isAgg 118).run Tryz.prog W = .ok true W := by kernel_rfl
  have hs : (sizeOf 118).run Tryz.prog W = .ok 64 W := by kernel_rfl
  simp only [Instr.loadAt, Instr.sureAddr, Sem.run_bind, Sem.run_pure, Result.andThen_ok, loadVar, ha, hs, if_true, hl]

/-- The same three as rules on a whole operation: for a region that draws its order. -/
def all64V (W : World) : Value → Bool
  | .pointer (some a) => all64 W a
  | _ => false
def read64V (W : World) : Value → List Value
  | .pointer (some a) => read64 W a
  | _ => []
theorem all64V_ptr (W : World) (a : Addr) : all64V W (.pointer (some a)) = all64 W a := rfl
theorem read64V_ptr (W : World) (a : Addr) : read64V W (.pointer (some a)) = read64 W a := rfl
section
variable (ρ : Operand → Value) (d : Option Tmp) (t : TypeId) (p : String) (af : Array Edge) (gd : Option (Nat × Bool)) (W : World)
theorem exec_load64 (x : Operand) (h : all64V W (ρ x) = true) :
    (execOp ρ ⟨d, .load 118 x, t, p, af, gd⟩).run Tryz.prog W = .ok (.value (.agg (read64V W (ρ x)).toArray)) W := by
  generalize hv : ρ x = v at h ⊢
  unfold all64V at h
  split at h
  · simp only [execOp, hv, Sem.run_bind, run_load64 W _ h, Result.andThen_ok, Sem.run_pure, read64V]
  · cases h

def noOf : Value → Int
  | .int .i64 n => n
  | _ => 0
def bytesIn : Value → List Value
  | .agg cs => cs.toList
  | _ => []
def isWait (v u : Value) : Bool :=
  match v, u with
  | .int .i64 _, .agg cs => cs.size == 64
  | _, _ => false
theorem isWait_U (no : Int) (bs : List Int) : isWait (.int .i64 no) (.agg (U bs).toArray) = (bs.length == 64) := by simp [isWait, U_length]
def is65 : Value → Bool
  | .agg cs => cs.size == 65
  | _ => false
theorem is65_U (no : Int) (bs : List Int) : is65 (.agg (.int .i64 no :: U bs).toArray) = (bs.length == 64) := by
  simp [is65, U_length]
theorem noOf_int (n : Int) : noOf (.int .i64 n) = n := rfl
theorem bytesIn_agg (cs : List Value) : bytesIn (.agg cs.toArray) = cs := rfl
end

end Go.Proofs.YtlpljedacohngaaGreatDoor
end

/-
  Write: what it does to a disk. Conditions: the disk is held; the bytes handed in lie at their address where there are 64 of them, beside the disk's own block.
-/

section
set_option maxRecDepth 100000
set_option linter.unusedSimpArgs false
set_option linter.unusedVariables false
namespace Go.Proofs.YtlpljedacohngaaGreatDoor
open Go.RowKit

attribute [local go_sem ↓] exec_load64 
attribute [local go_sem] run_arrayAt64 read64_drew all64_drew all64V_ptr read64V_ptr isWait_U is65_U noOf_int bytesIn_agg

theorem W_snoc (ws : List (Int × List Int)) (no : Int) (bs : List Int) : W ws ++ (.int .i64 no :: U bs) = W (ws ++ [(no, bs)]) := by simp [W]
theorem one_cells (no : Int) (bs : List Int) : ∀ u ∈ (.int .i64 no :: U bs : List Value), u.oneCell' = true := by
  intro u hu
  rcases List.mem_cons.1 hu with rfl | hu
  · rfl
  · exact U_oneCell bs u hu

theorem block_of_add' (a : Addr) (n : Nat) : (a.add n).block = a.block := by unfold Addr.add; split <;> rfl
theorem len65 (no : Int) {bs : List Int} (h : (U bs).length = 64) : (.int .i64 no :: U bs : List Value).length = 1 * 65 := by rw [List.length_cons, h]
theorem new_cells (w : World) (cs : List Value) (t : TypeId) : ∀ j u, cs[j]? = some u → (w.alloc (.cells cs.toArray t)).cell? ((⟨w.heap.size, 0, none⟩ : Addr).add j) = some u := by
  intro j u hu
  have hadd : (⟨w.heap.size, 0, none⟩ : Addr).add j = ⟨w.heap.size, j, none⟩ := by unfold Addr.add; split <;> simp_all
  rw [hadd, (Blk.new w t cs).cell j, hu]

end Go.Proofs.YtlpljedacohngaaGreatDoor
end

/-
  A sector's laid bytes as a slice; the laying of a waiting write. Conditions: the disk's block and its laid bytes are known; the sector is there.
-/

section
set_option maxRecDepth 100000
set_option linter.unusedSimpArgs false
set_option linter.unusedVariables false
namespace Go.Proofs.YtlpljedacohngaaGreatDoor
open Go.RowKit

theorem ret_slice {A : Option Addr} {n n' c c' : Nat} (h : n = n') (h2 : c = c') : Ending.returned (.slice A n c) = .returned (.slice A n' c') := by rw [h, h2]

end Go.Proofs.YtlpljedacohngaaGreatDoor
end

/-
  Numbers out of bytes, plainly. Plain definitions and theorems; no condition.
-/

section
set_option linter.unusedSimpArgs false
set_option linter.unusedVariables false
set_option maxRecDepth 100000
namespace Go.Proofs.YtlpljedacohngaaGreatDoor
open Go.RowKit

/-- The number that bytes are, the highest first. -/
def fromB (xs : List B8) : Nat := xs.foldl (fun n x => n * 256 + x.toNat) 0
theorem fromB_snoc (xs : List B8) (x : B8) : fromB (xs ++ [x]) = fromB xs * 256 + x.toNat := by simp [fromB]
theorem fromB_lt (xs : List B8) : fromB xs < 256 ^ xs.length := by
  have h : ∀ (l : List B8), fromB l.reverse < 256 ^ l.length := by
    intro l
    induction l with
    | nil => simp [fromB]
    | cons x l ih =>
      rw [List.reverse_cons, fromB_snoc, List.length_cons, Nat.pow_succ]
      have := x.isLt
      omega
  have := h xs.reverse
  rwa [List.reverse_reverse, List.length_reverse] at this
theorem or_u64n (a b : Nat) (ha : a < 2 ^ 56) (hb : b < 256) : bits .or .u64 ((a : Int) * 256) (b : Int) = ((a * 256 + b : Nat) : Int) := by
  unfold bits
  simp only [IntKind.bits]
  have e1 : BitVec.ofInt 64 ((a : Int) * 256) = BitVec.ofNat 64 (a * 256) := by
    apply BitVec.eq_of_toNat_eq
    simp
    omega
  have e2 : BitVec.ofInt 64 (b : Int) = BitVec.ofNat 64 b := by
    apply BitVec.eq_of_toNat_eq
    simp
  rw [e1, e2]
  have e3 : (BitVec.ofNat 64 (a * 256) ||| BitVec.ofNat 64 b).toNat = a * 256 + b := by
    rw [BitVec.toNat_or, BitVec.toNat_ofNat, BitVec.toNat_ofNat, Nat.mod_eq_of_lt (by omega), Nat.mod_eq_of_lt (by omega)]
    rw [Nat.mul_comm, show (256 : Nat) = 2 ^ 8 from rfl, ← Nat.two_pow_add_eq_or_of_lt (i := 8) (b := b) (by omega)]
  have e4 : ∀ z : BitVec 64, z.toNat = a * 256 + b → IntKind.u64.wrap (z.toNat : Int) = ((a * 256 + b : Nat) : Int) := by
    intro z hz
    rw [hz]
    simp [IntKind.wrap, IntKind.signed, IntKind.bits]
    omega
  exact e4 _ e3
end Go.Proofs.YtlpljedacohngaaGreatDoor
end
