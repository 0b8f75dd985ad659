/-
  Check, and what it asks; the document's Check; To and Of. No condition.
-/
import Derived.Test.YtkmkblhmjeeaeaaGreatDoorChecked
import Derived.Test.YtkmkblhmjeeaeaaGreatDoorM2
import Derived.Outline
import Derived.Deep.DeepFit
import Derived.Deep.QuietTactic
import Derived.BigQuiet
import Derived.Test.YtkmkblhmjeeaeaaGreatDoorM1
import Derived.Test.YtkmkblhmjeeaeaaGreatDoorProg
import Derived.Great.BuildSlice
import Derived.Deep.RegionLaw
import Derived.Deep.AppendLies
import Derived.Lib.Hide
import Derived.StillTailTactics
import Derived.Laws.CopyOwn
section
set_option linter.unusedSimpArgs false
set_option linter.unusedVariables false
set_option maxRecDepth 100000
namespace Go.Proofs.YtkmkblhmjeeaeaaGreatDoor
open Go.RowKit

theorem isKind_yes (w : World) (n : Int) (h0 : 0 ≤ n) (h1 : n ≤ 4) : Calls Tryz.prog 113 #[.int .i64 n] w fun e w' => e = .returned (.bool true) ∧ w = w' := by
  go_enter Tryz.func113, Tryz.ntmps113
  go_wp2_with fail
  go_ret
  exact ⟨rfl, rfl⟩
theorem isKind_no (w : World) (n : Int) (h : n < 0 ∨ 4 < n) : Calls Tryz.prog 113 #[.int .i64 n] w fun e w' => e = .returned (.bool false) ∧ w = w' := by
  by_cases h0 : 0 ≤ n
  · have h1 : decide (n ≤ 4) = false := by simp; omega
    clear h
    go_enter Tryz.func113, Tryz.ntmps113
    go_wp2_with fail
    go_ret
    exact ⟨rfl, rfl⟩
  · have h1 : decide (0 ≤ n) = false := by simpa using h0
    clear h h0
    go_enter Tryz.func113, Tryz.ntmps113
    go_wp2_with fail
    go_ret
    exact ⟨rfl, rfl⟩
theorem isMode_yes (w : World) (n : Int) (h0 : 0 ≤ n) (h1 : n ≤ 4095) : Calls Tryz.prog 114 #[.int .i64 n] w fun e w' => e = .returned (.bool true) ∧ w = w' := by
  go_enter Tryz.func114, Tryz.ntmps114
  go_wp2_with fail
  go_ret
  exact ⟨rfl, rfl⟩
theorem isMode_no (w : World) (n : Int) (h : n < 0 ∨ 4095 < n) : Calls Tryz.prog 114 #[.int .i64 n] w fun e w' => e = .returned (.bool false) ∧ w = w' := by
  by_cases h0 : 0 ≤ n
  · have h1 : decide (n ≤ 4095) = false := by simp; omega
    clear h
    go_enter Tryz.func114, Tryz.ntmps114
    go_wp2_with fail
    go_ret
    exact ⟨rfl, rfl⟩
  · have h1 : decide (0 ≤ n) = false := by simpa using h0
    clear h h0
    go_enter Tryz.func114, Tryz.ntmps114
    go_wp2_with fail
    go_ret
    exact ⟨rfl, rfl⟩
theorem isWho_yes (w : World) (n : Int) (h0 : 0 ≤ n) (h1 : n ≤ 65535) : Calls Tryz.prog 115 #[.int .i64 n] w fun e w' => e = .returned (.bool true) ∧ w = w' := by
  go_enter Tryz.func115, Tryz.ntmps115
  go_wp2_with fail
  go_ret
  exact ⟨rfl, rfl⟩
theorem isWho_no (w : World) (n : Int) (h : n < 0 ∨ 65535 < n) : Calls Tryz.prog 115 #[.int .i64 n] w fun e w' => e = .returned (.bool false) ∧ w = w' := by
  by_cases h0 : 0 ≤ n
  · have h1 : decide (n ≤ 65535) = false := by simp; omega
    clear h
    go_enter Tryz.func115, Tryz.ntmps115
    go_wp2_with fail
    go_ret
    exact ⟨rfl, rfl⟩
  · have h1 : decide (0 ≤ n) = false := by simpa using h0
    clear h h0
    go_enter Tryz.func115, Tryz.ntmps115
    go_wp2_with fail
    go_ret
    exact ⟨rfl, rfl⟩

set_option maxHeartbeats 2000000 in
theorem mcheck_any (w : World) (k m o g : Int) : Calls Tryz.prog 82 #[stv k m o g] w fun e w' => e = .returned (.int .i64 (chk k m o g)) ∧ Below w.heap.size w w' := by
  have HB := Lib.hid (mnew w (.cells #[.int .i64 k, .int .i64 m, .int .i64 o, .int .i64 g] 39))
  by_cases hk : 0 ≤ k ∧ k ≤ 4
  · by_cases hm : 0 ≤ m ∧ m ≤ 4095
    · by_cases ho : 0 ≤ o ∧ o ≤ 65535
      · by_cases hg : 0 ≤ g ∧ g ≤ 65535
        · rw [chk_ok hk.1 hk.2 hm.1 hm.2 ho.1 ho.2 hg.1 hg.2]
          have K := Lib.hid (And.intro hk (And.intro hm (And.intro ho hg)))
          clear hk hm ho hg
          go_enter Tryz.func82, Tryz.ntmps82
          go_wp2_with (first
            | (go_at_call 113; ((with_reducible refine (isKind_yes _ k K.out.1.1 K.out.1.2).mono ?_); rintro e w' ⟨rfl, rfl⟩))
            | (go_at_call 114; ((with_reducible refine (isMode_yes _ m K.out.2.1.1 K.out.2.1.2).mono ?_); rintro e w' ⟨rfl, rfl⟩))
            | (go_at_call 115; ((with_reducible refine (isWho_yes _ o K.out.2.2.1.1 K.out.2.2.1.2).mono ?_); rintro e w' ⟨rfl, rfl⟩))
            | (go_at_call 115; ((with_reducible refine (isWho_yes _ g K.out.2.2.2.1 K.out.2.2.2.2).mono ?_); rintro e w' ⟨rfl, rfl⟩)))
          go_ret
          exact ⟨rfl, HB.out⟩
        · rw [chk_arg hk.1 hk.2 hm.1 hm.2 (by omega)]
          have K := Lib.hid (And.intro hk (And.intro hm (And.intro ho (show g < 0 ∨ 65535 < g by omega))))
          clear hk hm ho hg
          go_enter Tryz.func82, Tryz.ntmps82
          go_wp2_with (first
            | (go_at_call 113; ((with_reducible refine (isKind_yes _ k K.out.1.1 K.out.1.2).mono ?_); rintro e w' ⟨rfl, rfl⟩))
            | (go_at_call 114; ((with_reducible refine (isMode_yes _ m K.out.2.1.1 K.out.2.1.2).mono ?_); rintro e w' ⟨rfl, rfl⟩))
            | (go_at_call 115; ((with_reducible refine (isWho_yes _ o K.out.2.2.1.1 K.out.2.2.1.2).mono ?_); rintro e w' ⟨rfl, rfl⟩))
            | (go_at_call 115; ((with_reducible refine (isWho_no _ g K.out.2.2.2).mono ?_); rintro e w' ⟨rfl, rfl⟩)))
          go_ret
          exact ⟨rfl, HB.out⟩
      · rw [chk_arg hk.1 hk.2 hm.1 hm.2 (by omega)]
        have K := Lib.hid (And.intro hk (And.intro hm (show o < 0 ∨ 65535 < o by omega)))
        clear hk hm ho
        go_enter Tryz.func82, Tryz.ntmps82
        go_wp2_with (first
          | (go_at_call 113; ((with_reducible refine (isKind_yes _ k K.out.1.1 K.out.1.2).mono ?_); rintro e w' ⟨rfl, rfl⟩))
          | (go_at_call 114; ((with_reducible refine (isMode_yes _ m K.out.2.1.1 K.out.2.1.2).mono ?_); rintro e w' ⟨rfl, rfl⟩))
          | (go_at_call 115; ((with_reducible refine (isWho_no _ o K.out.2.2).mono ?_); rintro e w' ⟨rfl, rfl⟩)))
        go_ret
        exact ⟨rfl, HB.out⟩
    · rw [chk_mode hk.1 hk.2 (by omega)]
      have K := Lib.hid (And.intro hk (show m < 0 ∨ 4095 < m by omega))
      clear hk hm
      go_enter Tryz.func82, Tryz.ntmps82
      go_wp2_with (first
        | (go_at_call 113; ((with_reducible refine (isKind_yes _ k K.out.1.1 K.out.1.2).mono ?_); rintro e w' ⟨rfl, rfl⟩))
        | (go_at_call 114; ((with_reducible refine (isMode_no _ m K.out.2).mono ?_); rintro e w' ⟨rfl, rfl⟩)))
      go_ret
      exact ⟨rfl, HB.out⟩
  · rw [chk_type (by omega)]
    have K := Lib.hid (show k < 0 ∨ 4 < k by omega)
    clear hk
    go_enter Tryz.func82, Tryz.ntmps82
    go_wp2_with (go_at_call 113; ((with_reducible refine (isKind_no _ k K.out).mono ?_); rintro e w' ⟨rfl, rfl⟩))
    go_ret
    exact ⟨rfl, HB.out⟩

set_option maxHeartbeats 2000000 in
/-- The document's Check. -/
theorem mrcheck_any (w : World) (k m o g : Int) : Calls Tryz.prog 23 #[stv k m o g] w fun e w' => e = .returned (.int .i64 (chk k m o g)) ∧ Below w.heap.size w w' := by
  have HB := Lib.hid (mnew w (.cells #[.int .i64 k, .int .i64 m, .int .i64 o, .int .i64 g] 51))
  by_cases k0 : k < 0
  · rw [chk_type (by omega)]
    go_enter Tryz.func23, Tryz.ntmps23
    go_wp2_with fail
    go_ret
    exact ⟨rfl, HB.out⟩
  by_cases k1 : 4 < k
  · rw [chk_type (by omega)]
    go_enter Tryz.func23, Tryz.ntmps23
    go_wp2_with fail
    go_ret
    exact ⟨rfl, HB.out⟩
  by_cases m0 : m < 0
  · rw [chk_mode (by omega) (by omega) (by omega)]
    go_enter Tryz.func23, Tryz.ntmps23
    go_wp2_with fail
    go_ret
    exact ⟨rfl, HB.out⟩
  by_cases m1 : 4095 < m
  · rw [chk_mode (by omega) (by omega) (by omega)]
    go_enter Tryz.func23, Tryz.ntmps23
    go_wp2_with fail
    go_ret
    exact ⟨rfl, HB.out⟩
  by_cases o0 : o < 0
  · rw [chk_arg (by omega) (by omega) (by omega) (by omega) (by omega)]
    go_enter Tryz.func23, Tryz.ntmps23
    go_wp2_with fail
    go_ret
    exact ⟨rfl, HB.out⟩
  by_cases o1 : 65535 < o
  · rw [chk_arg (by omega) (by omega) (by omega) (by omega) (by omega)]
    go_enter Tryz.func23, Tryz.ntmps23
    go_wp2_with fail
    go_ret
    exact ⟨rfl, HB.out⟩
  by_cases g0 : g < 0
  · rw [chk_arg (by omega) (by omega) (by omega) (by omega) (by omega)]
    go_enter Tryz.func23, Tryz.ntmps23
    go_wp2_with fail
    go_ret
    exact ⟨rfl, HB.out⟩
  by_cases g1 : 65535 < g
  · rw [chk_arg (by omega) (by omega) (by omega) (by omega) (by omega)]
    go_enter Tryz.func23, Tryz.ntmps23
    go_wp2_with fail
    go_ret
    exact ⟨rfl, HB.out⟩
  rw [chk_ok (by omega) (by omega) (by omega) (by omega) (by omega) (by omega) (by omega) (by omega)]
  go_enter Tryz.func23, Tryz.ntmps23
  go_wp2_with fail
  go_ret
  exact ⟨rfl, HB.out⟩

theorem mto_any (w : World) (k m o g : Int) : Calls Tryz.prog 41 #[stv k m o g] w fun e w' => e = .returned (stv k m o g) ∧ Below w.heap.size w w' := by
  go_enter Tryz.func41, Tryz.ntmps41
  go_wp2_with fail
  refine bodyPost_ret (v := stv k m o g) (by simp [results, Tryz.results41, go_sem]) rfl ⟨rfl, ?_⟩
  exact ((Below.refl _ _).alloc (Nat.le_refl _) _).alloc (by simp) _
theorem mof_any (w : World) (k m o g : Int) : Calls Tryz.prog 64 #[stv k m o g] w fun e w' => e = .returned (stv k m o g) ∧ Below w.heap.size w w' := by
  go_enter Tryz.func64, Tryz.ntmps64
  go_wp2_with fail
  refine bodyPost_ret (v := stv k m o g) (by simp [results, Tryz.results64, go_sem]) rfl ⟨rfl, ?_⟩
  exact ((Below.refl _ _).alloc (Nat.le_refl _) _).alloc (by simp) _
end Go.Proofs.YtkmkblhmjeeaeaaGreatDoor
end

/-
  The document's digits, what is granted, Cut, and whether somebody may. Conditions: a mode and a who that are ones, where said; lists that lie in memory.
-/

section
set_option linter.unusedSimpArgs false
set_option linter.unusedVariables false
set_option maxRecDepth 100000
namespace Go.Proofs.YtkmkblhmjeeaeaaGreatDoor
open Go.RowKit

/-- Where has stands. -/
def HasAt (d w : Int) (v : Value) : Prop :=
  v = .int .i64 4 ∨ (v = .int .i64 2 ∧ hasB d w = (!(decide (w / 2 % 2 = 1) && decide (d / 2 % 2 = 0)) && !(decide (w / 1 % 2 = 1) && decide (d / 1 % 2 = 0)))) ∨
    (v = .int .i64 1 ∧ hasB d w = !(decide (w / 1 % 2 = 1) && decide (d / 1 % 2 = 0))) ∨ (v = .int .i64 0 ∧ hasB d w = true)
theorem eqB_true {a b : Int} (h : a = b) : (a == b) = true ∧ decide (a = b) = true := ⟨by simp [h], by simp [h]⟩
theorem eqB_false {a b : Int} (h : ¬ a = b) : (a == b) = false ∧ decide (a = b) = false ∧ (a != b) = true := ⟨by simp [h], by simp [h], by simp [h]⟩
/-- Where Cut stands. -/
def CutAt (m : Int) (ds : List Int) (mv iv : Value) : Prop := ∃ k : Nat, k ≤ ds.length ∧ iv = .int .i64 k ∧ mv = .int .i64 ((ds.take k).foldl (fun a d => bits .andNot .i64 a d) m)
theorem foldl_take {α : Type} (f : α → Int → α) (a : α) (l : List Int) (k : Nat) (x : Int) (h : l[k]? = some x) : (l.take (k + 1)).foldl f a = f ((l.take k).foldl f a) x := by
  rw [List.take_add_one, h]
  simp
/-- A list's first wants may all be done. -/
def mayAll (d : Int) (ws : List Int) : Bool := ws.all fun x => decide (bits .andNot .i64 x d = 0)
theorem mayAll_snoc {d x : Int} {ws : List Int} {k : Nat} (h : mayAll d (ws.take k) = true) (hx : ws[k]? = some x) (h0 : bits .andNot .i64 x d = 0) : mayAll d (ws.take (k + 1)) = true := by
  unfold mayAll at h ⊢
  rw [List.take_add_one, hx, List.all_append, h]
  simp [h0]
theorem mayAll_stop {d x : Int} {ws : List Int} {k : Nat} (hx : ws[k]? = some x) (h0 : ¬ bits .andNot .i64 x d = 0) : mayAll d ws = false := by
  unfold mayAll
  rw [List.all_eq_false]
  exact ⟨x, List.mem_of_getElem? hx, by simpa using h0⟩
/-- Where Can stands. -/
def CanAt (d : Int) (ws : List Int) (iv : Value) : Prop := ∃ k : Nat, k ≤ ws.length ∧ iv = .int .i64 k ∧ mayAll d (ws.take k) = true
theorem can_bad {k m o g who group : Int} {ws : List Int} (h : chk k m o g ≠ 0) : canB k m o g who group ws = false := by unfold canB; simp [h]
theorem can_who {k m o g who group : Int} {ws : List Int} (h : who < 0 ∨ 65535 < who) : canB k m o g who group ws = false := by
  unfold canB whoB
  have : (decide (0 ≤ who) && decide (who ≤ 65535)) = false := by rw [Bool.and_eq_false_iff, decide_eq_false_iff_not, decide_eq_false_iff_not]; omega
  rw [this]
  simp
theorem can_group {k m o g who group : Int} {ws : List Int} (h : group < 0 ∨ 65535 < group) : canB k m o g who group ws = false := by
  unfold canB whoB
  have : (decide (0 ≤ group) && decide (group ≤ 65535)) = false := by rw [Bool.and_eq_false_iff, decide_eq_false_iff_not, decide_eq_false_iff_not]; omega
  rw [this]
  simp
theorem can_may {k m o g who group : Int} {ws : List Int} (h : chk k m o g = 0) (h0 : 0 ≤ who) (h1 : who ≤ 65535) (h2 : 0 ≤ group) (h3 : group ≤ 65535) : canB k m o g who group ws = mayAll (gr m o g who group) ws := by
  unfold canB whoB mayAll
  simp [h, h0, h1, h2, h3]
theorem check_ok (w : World) {k m o g : Int} (h : chk k m o g = 0) : Calls Tryz.prog 82 #[stv k m o g] w fun e w' => e = .returned (.int .i64 0) ∧ Below w.heap.size w w' := by
  have := mcheck_any w k m o g
  rwa [h] at this
theorem check_bad (w : World) {k m o g : Int} (h : chk k m o g ≠ 0) : Calls Tryz.prog 82 #[stv k m o g] w fun e w' => ∃ z, e = .returned (.int .i64 z) ∧ z = chk k m o g ∧ Below w.heap.size w w' :=
  (mcheck_any w k m o g).mono fun e w' h => ⟨_, h.1, rfl, h.2⟩
theorem rcheck_ok (w : World) {k m o g : Int} (h : chk k m o g = 0) : Calls Tryz.prog 23 #[stv k m o g] w fun e w' => e = .returned (.int .i64 0) ∧ Below w.heap.size w w' := by
  have := mrcheck_any w k m o g
  rwa [h] at this
theorem rcheck_bad (w : World) {k m o g : Int} (h : chk k m o g ≠ 0) : Calls Tryz.prog 23 #[stv k m o g] w fun e w' => ∃ z, e = .returned (.int .i64 z) ∧ z = chk k m o g ∧ Below w.heap.size w w' :=
  (mrcheck_any w k m o g).mono fun e w' h => ⟨_, h.1, rfl, h.2⟩

end Go.Proofs.YtkmkblhmjeeaeaaGreatDoor
end

/-
  The document's Blocks and Check of changes. Conditions: the changes lie in memory; fewer than 2^30 bytes.
-/

section
set_option linter.unusedSimpArgs false
set_option linter.unusedVariables false
set_option maxRecDepth 100000
namespace Go.Proofs.YtkmkblhmjeeaeaaGreatDoor
open Go.RowKit

/-- How many blocks so many bytes need. -/
def blks (n : Nat) : Nat := (n + 63) / 64
theorem rblocks_any (w : World) (n : Nat) (hn : n ≤ 1073741824) : Calls Tryz.prog 24 #[.int .i64 n] w fun e w' => e = .returned (.int .i64 (blks n : Nat)) ∧ w = w' := by
  go_enter Tryz.func24, Tryz.ntmps24
  go_wp2_with fail
  go_loop [3] (fun v => ∃ k : Nat, k ≤ blks n ∧ v = .int .i64 k) (fun v => blks n - (intOf v).toNat)
  case atStart => exact ⟨0, Nat.zero_le _, rfl⟩
  case round =>
    obtain ⟨k, hk, rfl⟩ := hrel
    have hb : blks n ≤ 16777216 := by unfold blks; omega
    by_cases hlt : 64 * k < n
    · have hk1 : k + 1 ≤ blks n := by unfold blks; omega
      have HK := Lib.hid hk1
      have hlt' : 64 * (k : Int) < n := by omega
      go_wp2_with fail
      go_round
      case rel => exact ⟨k + 1, HK.out, by go_num⟩
      case measure => simp [intOf]; have := HK.out; omega
    · have hk1 : k = blks n := by unfold blks at hk ⊢; omega
      have hlt' : decide (64 * (k : Int) < n) = false := by simp; omega
      have HK := Lib.hid hk1
      clear hk1
      go_wp2_with fail
      go_ret
      exact ⟨ret_num (by rw [← HK.out]), rfl⟩

/-- A change, as it lies: a slice for its bytes. -/
structure Cv where
  no : Int
  k : Int
  m : Int
  o : Int
  g : Int
  A : Option Addr
  n : Nat
  c : Nat
  drop : Bool
/-- Changes that lie in memory. -/
structure CvIn (w : World) (P : Option Addr) (N : Nat) (l : List Cv) : Prop where
  len : l.length = N
  big : N ≤ 9223372036854775807
  cells : 0 < N → ∃ g o, P = some ⟨g, o, none⟩ ∧ g < w.heap.size ∧ ∀ (i : Nat) (x : Cv), l[i]? = some x → w.cell? ⟨g, o + i * 7, none⟩ = some (.int .i64 x.no) ∧ w.cell? ⟨g, o + i * 7 + 1, none⟩ = some (.int .i64 x.k) ∧ w.cell? ⟨g, o + i * 7 + 2, none⟩ = some (.int .i64 x.m) ∧
    w.cell? ⟨g, o + i * 7 + 3, none⟩ = some (.int .i64 x.o) ∧ w.cell? ⟨g, o + i * 7 + 4, none⟩ = some (.int .i64 x.g) ∧ w.cell? ⟨g, o + i * 7 + 5, none⟩ = some (.slice x.A x.n x.c) ∧ w.cell? ⟨g, o + i * 7 + 6, none⟩ = some (.bool x.drop)
theorem CvIn.below {w w' : World} {P : Option Addr} {len : Nat} {l : List Cv} (h : CvIn w P len l) (hb : Below w.heap.size w w') : CvIn w' P len l := by
  refine ⟨h.len, h.big, fun hn => ?_⟩
  obtain ⟨g, o, hP, hg, hc⟩ := h.cells hn
  refine ⟨g, o, hP, Nat.lt_of_lt_of_le hg hb.size, fun i x hx => ?_⟩
  obtain ⟨h0, h1, h2, h3, h4, h5, h6⟩ := hc i x hx
  exact ⟨mcell h0 hb, mcell h1 hb, mcell h2 hb, mcell h3 hb, mcell h4 hb, mcell h5 hb, mcell h6 hb⟩
def badNo (nodes : Int) (l : List Cv) : Bool := l.any fun x => decide (x.no < 0) || decide (nodes ≤ x.no)
/-- Is a change of the node that one ahead is of? -/
def twiceAt (l : List Cv) (i : Nat) (no : Int) : Bool := (l.take i).any fun y => decide (y.no = no)
def twiceTo (l : List Cv) (n : Nat) : Bool := (List.range n).any fun i => match l[i]? with | some x => twiceAt l i x.no | none => false
def firstErr : List Cv → Int
  | [] => 0
  | x :: r => if x.drop = true then firstErr r else if chk x.k x.m x.o x.g ≠ 0 then chk x.k x.m x.o x.g else if 512 < x.n then 2 else firstErr r
/-- What is wrong with changes. -/
def chkL (l : List Cv) (nodes : Int) : Int := if badNo nodes l then 1 else if twiceTo l l.length then 8 else firstErr l
theorem any_snoc {α : Type} {p : α → Bool} {l : List α} {i : Nat} {x : α} (hx : l[i]? = some x) : (l.take (i + 1)).any p = ((l.take i).any p || p x) := by
  rw [List.take_add_one, hx, List.any_append]
  simp
theorem any_hit {α : Type} {p : α → Bool} {l : List α} {i : Nat} {x : α} (hx : l[i]? = some x) (h : p x = true) : l.any p = true := List.any_eq_true.2 ⟨x, List.mem_of_getElem? hx, h⟩
theorem chkL_bad {l : List Cv} {nodes : Int} {i : Nat} {x : Cv} (hx : l[i]? = some x) (h : (decide (x.no < 0) || decide (nodes ≤ x.no)) = true) : chkL l nodes = 1 := by
  have hb : badNo nodes l = true := any_hit hx h
  unfold chkL
  rw [if_pos hb]
theorem twiceTo_succ {l : List Cv} {i : Nat} {x : Cv} (hx : l[i]? = some x) : twiceTo l (i + 1) = (twiceTo l i || twiceAt l i x.no) := by
  unfold twiceTo
  rw [List.range_succ, List.any_append]
  simp [hx]
theorem twiceTo_hit {l : List Cv} {i : Nat} {x : Cv} (hx : l[i]? = some x) (h : twiceAt l i x.no = true) : twiceTo l l.length = true := by
  unfold twiceTo
  rw [List.any_eq_true]
  exact ⟨i, by have := (List.getElem?_eq_some_iff.1 hx).1; simpa using this, by simp [hx, h]⟩
theorem firstErr_drop {l : List Cv} {i : Nat} {x : Cv} (hx : l[i]? = some x) : l.drop i = x :: l.drop (i + 1) := by
  obtain ⟨hi, rfl⟩ := List.getElem?_eq_some_iff.1 hx
  exact List.drop_eq_getElem_cons hi

set_option maxRecDepth 100000 in
set_option maxHeartbeats 8000000 in
theorem rchkL_any (w : World) (P : Option Addr) (len c : Nat) (l : List Cv) (nodes : Int) (hl : CvIn w P len l) :
    Calls Tryz.prog 7 #[.slice P len c, .int .i64 nodes] w fun e w' => e = .returned (.int .i64 (chkL l nodes)) ∧ Below w.heap.size w w' := by
  have HL := Lib.hid hl
  have hbig := hl.big
  clear hl
  go_enter Tryz.func7, Tryz.ntmps7
  go_wp2_with fail
  go_loop [5] (fun iv => ∃ i : Nat, i ≤ len ∧ iv = .int .i64 i ∧ Hid (badNo nodes (l.take i) = false)) (fun iv => len - (intOf iv).toNat)
  case atStart => exact ⟨0, Nat.zero_le _, rfl, Lib.hid rfl⟩
  case round =>
    obtain ⟨i, hi, rfl, hb⟩ := hrel
    by_cases hlt : i < len
    · obtain ⟨g, o, rfl, hg, hc⟩ := HL.out.cells (by omega)
      obtain ⟨x, hx⟩ : ∃ x, l[i]? = some x := ⟨_, List.getElem?_eq_getElem (by have := HL.out.len; omega)⟩
      have h0 := (hc i x hx).1
      have HX := Lib.hid hx
      clear hc hx
      obtain ⟨no, hno⟩ : ∃ no, x.no = no := ⟨_, rfl⟩
      rw [hno] at h0
      have HN := Lib.hid hno
      clear hno
      by_cases n0 : no < 0
      · have HC : Hid (chkL l nodes = 1) := Lib.hid (chkL_bad HX.out (by rw [HN.out, decide_eq_true n0]; rfl))
        go_wp2_with fail
        go_ret
        exact ⟨ret_num HC.out.symm, Below.refl _ _⟩
      · by_cases n1 : nodes ≤ no
        · have HC : Hid (chkL l nodes = 1) := Lib.hid (chkL_bad HX.out (by rw [HN.out, decide_eq_true n1, Bool.or_true]))
          go_wp2_with fail
          go_ret
          exact ⟨ret_num HC.out.symm, Below.refl _ _⟩
        · have HC : Hid (badNo nodes (l.take (i + 1)) = false) := Lib.hid (by
            unfold badNo
            rw [any_snoc HX.out, HN.out, decide_eq_false n0, decide_eq_false n1]
            have := hb.out
            unfold badNo at this
            rw [this]
            rfl)
          go_wp2_with fail
          go_round
          case rel => exact ⟨i + 1, by omega, by go_num, HC⟩
          case measure => simp [intOf]; omega
    · have HB : Hid (badNo nodes l = false) := Lib.hid (by have := hb.out; rwa [List.take_of_length_le (by have := HL.out.len; omega)] at this)
      clear hb
      go_wp2_with fail
      clear hi hlt
      go_loopw [6] (fun iv wr => ∃ i : Nat, i ≤ len ∧ iv = .int .i64 i ∧ Hid (twiceTo l i = false) ∧ Below w.heap.size w wr) (fun iv _ => len - (intOf iv).toNat)
      case atStart => exact ⟨0, Nat.zero_le _, rfl, Lib.hid rfl, Below.refl _ _⟩
      case round =>
        obtain ⟨i, hi, rfl, ht, hbel⟩ := hrel
        obtain ⟨wo, hwo⟩ : ∃ wo, wo = wr := ⟨_, rfl⟩
        rw [← hwo] at hbel ⊢
        clear hwo
        have HO := Lib.hid (And.intro (HL.out.below hbel) hbel)
        clear hbel
        by_cases hlt : i < len
        · obtain ⟨x, hx⟩ : ∃ x, l[i]? = some x := ⟨_, List.getElem?_eq_getElem (by have := HL.out.len; omega)⟩
          have HX := Lib.hid hx
          clear hx
          go_wp2_with fail
          go_loopw [7] (fun kv wr => ∃ k : Nat, k ≤ i ∧ kv = .int .i64 k ∧ Hid (twiceAt l k x.no = false) ∧ Below wo.heap.size wo wr) (fun kv _ => i - (intOf kv).toNat)
          case atStart => exact ⟨0, Nat.zero_le _, rfl, Lib.hid rfl, Below.refl _ _⟩
          case round =>
            obtain ⟨k, hk, rfl, hta, hbk⟩ := hrel
            have HK := Lib.hid hbk
            by_cases hki : k < i
            · obtain ⟨g, o, rfl, hg, hc⟩ := (HO.out.1.below hbk).cells (by omega)
              obtain ⟨y, hy⟩ : ∃ y, l[k]? = some y := ⟨_, List.getElem?_eq_getElem (by have := HL.out.len; omega)⟩
              have hy0 := (hc k y hy).1
              have hx0 := (hc i x HX.out).1
              have HY := Lib.hid hy
              have hkl : k < len := by omega
              clear hc hy hbk hg
              by_cases he : y.no = x.no
              · have HC : Hid (chkL l nodes = 8) := Lib.hid (by
                  have h1 : twiceAt l i x.no = true := by
                    unfold twiceAt
                    exact any_hit (i := k) (x := y) (by rw [List.getElem?_take, if_pos hki]; exact HY.out) (by simp [he])
                  unfold chkL
                  rw [HB.out, twiceTo_hit HX.out h1]
                  rfl)
                rw [he] at hy0
                go_wp2_with fail
                go_quiet (fail)
                go_wp2_with fail
                go_ret
                exact ⟨ret_num HC.out.symm, HO.out.2.trans ((HK.out.trans ((mdrewN _ _).mono HK.out.size)).mono HO.out.2.size)⟩
              · have HC : Hid (twiceAt l (k + 1) x.no = false) := Lib.hid (by
                  unfold twiceAt
                  rw [any_snoc HY.out, decide_eq_false he]
                  have := hta.out
                  unfold twiceAt at this
                  rw [this]
                  rfl)
                obtain ⟨q1, q2, q3⟩ := eqB_false he
                clear he
                go_wp2_with fail
                go_quiet (fail)
                go_wp2_with fail
                go_roundw
                case rel => exact ⟨k + 1, by omega, by go_num, HC, HK.out.trans ((mdrewN _ _).mono HK.out.size)⟩
                case measure => simp [intOf]; omega
            · have HC : Hid (twiceTo l (i + 1) = false) := Lib.hid (by
                rw [twiceTo_succ HX.out, ht.out, Bool.false_or]
                have : k = i := by omega
                rw [← this]
                exact hta.out)
              clear hbk
              go_wp2_with fail
              go_roundw
              case rel => exact ⟨i + 1, by omega, by go_num, HC, HO.out.2.trans (HK.out.mono HO.out.2.size)⟩
              case measure => simp [intOf]; omega
        · have HT : Hid (twiceTo l l.length = false) := Lib.hid (by have := ht.out; rwa [show i = l.length by have := HL.out.len; omega] at this)
          clear ht
          go_wp2_with fail
          clear hi hlt
          go_loopw [8] (fun iv wr => ∃ i : Nat, i ≤ len ∧ iv = .int .i64 i ∧ Hid (firstErr l = firstErr (l.drop i)) ∧ Below wo.heap.size wo wr) (fun iv _ => len - (intOf iv).toNat)
          case atStart => exact ⟨0, Nat.zero_le _, rfl, Lib.hid rfl, Below.refl _ _⟩
          case round =>
            obtain ⟨i, hi, rfl, hf, hbk⟩ := hrel
            have HK := Lib.hid hbk
            have HW := Lib.hid (HO.out.2.trans (hbk.mono HO.out.2.size))
            by_cases hlt : i < len
            · obtain ⟨g, o, rfl, hg, hc⟩ := (HO.out.1.below hbk).cells (by omega)
              obtain ⟨x, hx⟩ : ∃ x, l[i]? = some x := ⟨_, List.getElem?_eq_getElem (by have := HL.out.len; omega)⟩
              obtain ⟨c0, c1, c2, c3, c4, c5, c6⟩ := hc i x hx
              have hF := hf.out
              rw [firstErr_drop hx, firstErr] at hF
              have HX := Lib.hid (And.intro hx hF)
              clear hc hx hbk hf hF hg
              obtain ⟨no, xk, xm, xo, xg, xA, xn, xc, xd⟩ := x
              simp only at c0 c1 c2 c3 c4 c5 c6
              cases xd with
              | true =>
                go_wp2_with fail
                go_roundw
                case rel => exact ⟨i + 1, by omega, by go_num, Lib.hid (by rw [HX.out.2, if_pos rfl]), HK.out⟩
                case measure => simp [intOf]; omega
              | false =>
                by_cases hz : chk xk xm xo xg = 0
                · by_cases hn : 512 < xn
                  · have HC : Hid (chkL l nodes = 2) := Lib.hid (by
                      unfold chkL
                      rw [HB.out, HT.out, HX.out.2]
                      simp [hz, hn])
                    have HZ := Lib.hid hz
                    have hn' : (512 : Int) < xn := by omega
                    clear hz
                    go_wp2_with fail
                    with_reducible refine (rcheck_ok _ HZ.out).mono ?_
                    rintro e w3 ⟨rfl, h3⟩
                    have d5 := mcell c5 h3
                    have H3 := Lib.hid (HW.out.trans (h3.mono HW.out.size))
                    clear h3 c0 c1 c2 c3 c4 c5 c6
                    go_wp2_with fail
                    go_ret
                    exact ⟨ret_num HC.out.symm, H3.out⟩
                  · have HC : Hid (firstErr l = firstErr (l.drop (i + 1))) := Lib.hid (by rw [HX.out.2]; simp [hz, hn])
                    have HZ := Lib.hid hz
                    have hn' : decide ((512 : Int) < xn) = false := by simp; omega
                    clear hz
                    go_wp2_with fail
                    with_reducible refine (rcheck_ok _ HZ.out).mono ?_
                    rintro e w3 ⟨rfl, h3⟩
                    have d5 := mcell c5 h3
                    have H3 := Lib.hid (HK.out.trans (h3.mono HK.out.size))
                    clear h3 c0 c1 c2 c3 c4 c5 c6
                    go_wp2_with fail
                    go_roundw
                    case rel => exact ⟨i + 1, by omega, by go_num, HC, H3.out⟩
                    case measure => simp [intOf]; omega
                · have HC : Hid (chkL l nodes = chk xk xm xo xg) := Lib.hid (by
                    unfold chkL
                    rw [HB.out, HT.out, HX.out.2]
                    simp [hz])
                  have HZ := Lib.hid hz
                  clear hz
                  go_wp2_with fail
                  with_reducible refine (rcheck_bad _ HZ.out).mono ?_
                  rintro e w3 ⟨z, rfl, hzz, h3⟩
                  obtain ⟨q1, q2, q3⟩ := eqB_false (show ¬ z = 0 by rw [hzz]; exact HZ.out)
                  have H3 := Lib.hid (And.intro hzz (HW.out.trans (h3.mono HW.out.size)))
                  clear h3 hzz c0 c1 c2 c3 c4 c5 c6
                  go_wp2_with fail
                  go_ret
                  exact ⟨ret_num (H3.out.1.trans HC.out.symm), H3.out.2⟩
            · have HC : Hid (chkL l nodes = 0) := Lib.hid (by
                unfold chkL
                rw [HB.out, HT.out, hf.out, List.drop_eq_nil_of_le (by have := HL.out.len; omega)]
                rfl)
              clear hbk hf
              go_wp2_with fail
              go_ret
              exact ⟨ret_num HC.out.symm, HW.out⟩
end Go.Proofs.YtkmkblhmjeeaeaaGreatDoor
end

/-
  The state of a disk as plain data, what the methods make of it, and when memory holds it. Plain definitions and theorems; no condition.
-/

section
set_option maxRecDepth 100000
set_option linter.unusedSimpArgs false
set_option linter.unusedVariables false
namespace Go.Proofs.YtkmkblhmjeeaeaaGreatDoor
open Go.RowKit

/-- A disk: power, what it is armed with, laid bytes (64 for each of n sectors), waiting writes, counts. -/
structure St where
  on : Bool
  armed : Bool
  left : Int
  n : Nat
  lc : Nat
  laid : List Int
  tl : List Value
  waits : List (Int × List Int)
  wr : Int
  fl : Int

/-- The cells of the disk's own block. -/
def dk (on armed : Bool) (left : Int) (L n lc : Nat) (wv : Value) (wr fl : Int) : List Value :=
  [.bool on, .bool armed, .int .i64 left, .slice (some ⟨L, 0, none⟩) (64 * n) lc, wv, .int .i64 wr, .int .i64 fl]

/-- The cells of the waiting writes. -/
def W (ws : List (Int × List Int)) : List Value := ws.flatMap fun p => .int .i64 p.1 :: U p.2

structure Good (s : St) : Prop where
  size : s.laid.length = 64 * s.n
  n1 : 1 ≤ s.n
  n2 : s.n ≤ 4096
  sec : ∀ p ∈ s.waits, 0 ≤ p.1 ∧ p.1 < s.n ∧ p.2.length = 64
  left0 : 0 ≤ s.left
  left1 : s.left ≤ 9223372036854775807
  cap : s.waits.length ≤ 1000000
  wr0 : 0 ≤ s.wr
  wr1 : s.wr ≤ 1000000
  fl0 : 0 ≤ s.fl
  fl1 : s.fl ≤ 1000000
  lc0 : 64 * s.n ≤ s.lc

structure IsDisk (B : Nat) (w : World) (D L : Nat) (wv : Value) (s : St) : Prop where
  disk : Blk w D 117 (dk s.on s.armed s.left L s.n s.lc wv s.wr s.fl)
  laid : Blk w L 5 (U s.laid ++ s.tl)
  own : w.ownsRow B 179 65 wv s.waits.length (W s.waits)
  baseD : B ≤ D
  baseL : B ≤ L
  good : Good s

theorem dk_cells {w : World} {D : Nat} {t : TypeId} {on armed : Bool} {left : Int} {L n lc : Nat} {wv : Value} {wr fl : Int} (h : Blk w D t (dk on armed left L n lc wv wr fl)) :
    w.cell? ⟨D, 0, none⟩ = some (.bool on) ∧ w.cell? ⟨D, 1, none⟩ = some (.bool armed) ∧ w.cell? ⟨D, 2, none⟩ = some (.int .i64 left) ∧
    w.cell? ⟨D, 3, none⟩ = some (.slice (some ⟨L, 0, none⟩) (64 * n) lc) ∧ w.cell? ⟨D, 4, none⟩ = some wv ∧
    w.cell? ⟨D, 5, none⟩ = some (.int .i64 wr) ∧ w.cell? ⟨D, 6, none⟩ = some (.int .i64 fl) :=
  ⟨h.cell 0, h.cell 1, h.cell 2, h.cell 3, h.cell 4, h.cell 5, h.cell 6⟩

/-- Laid bytes behind the laying of a sector. -/
def putS (laid : List Int) (k : Nat) (bs : List Int) : List Int := laid.take (64 * k) ++ bs ++ laid.drop (64 * k + 64)
theorem putS_length {laid bs : List Int} {k n : Nat} (hl : laid.length = 64 * n) (hk : k < n) (hb : bs.length = 64) : (putS laid k bs).length = 64 * n := by
  simp [putS]; omega

theorem W_get : ∀ (ws : List (Int × List Int)), (∀ p ∈ ws, p.2.length = 64) → ∀ (i : Nat) (p : Int × List Int), ws[i]? = some p →
    (W ws)[i * 65]? = some (.int .i64 p.1) ∧ ∀ j x, p.2[j]? = some x → (W ws)[i * 65 + 1 + j]? = some (.int .u8 x)
  | [], _, _, _, h => by simp at h
  | q :: ws, hw, i, p, h => by
    have hq : (Value.int .i64 q.1 :: U q.2).length = 65 := by simp [U_length, hw q (by simp)]
    have hW : W (q :: ws) = (Value.int .i64 q.1 :: U q.2) ++ W ws := by simp [W]
    match i, h with
    | 0, h =>
      simp only [List.getElem?_cons_zero, Option.some.injEq] at h
      subst h
      refine ⟨by rw [hW]; simp, fun j x hx => ?_⟩
      have hj : j < q.2.length := (List.getElem?_eq_some_iff.1 hx).1
      have hj2 := hw q (by simp)
      rw [hW, List.getElem?_append_left (by omega), show 0 * 65 + 1 + j = j + 1 by omega, List.getElem?_cons_succ, U_get, hx]
      rfl
    | i + 1, h =>
      simp only [List.getElem?_cons_succ] at h
      obtain ⟨h1, h2⟩ := W_get ws (fun p hp => hw p (by simp [hp])) i p h
      refine ⟨?_, fun j x hx => ?_⟩
      · rw [hW, List.getElem?_append_right (by omega), hq, show (i + 1) * 65 - 65 = i * 65 by omega]; exact h1
      · rw [hW, List.getElem?_append_right (by omega), hq, show (i + 1) * 65 + 1 + j - 65 = i * 65 + 1 + j by omega]; exact h2 j x hx

/-- The slice of the waiting writes, and its cells. -/
theorem IsDisk.form {B : Nat} {w : World} {D L : Nat} {wv : Value} {s : St} (h : IsDisk B w D L wv s) : ∃ A c, wv = .slice A s.waits.length c ∧ ∀ i p, s.waits[i]? = some p →
    ∃ g, A = some ⟨g, 0, none⟩ ∧ w.cell? ⟨g, i * 65, none⟩ = some (.int .i64 p.1) ∧ ∀ j x, p.2[j]? = some x → w.cell? ⟨g, i * 65 + 1 + j, none⟩ = some (.int .u8 x) := by
  rcases h.own.2 with ⟨rfl, hn⟩ | ⟨g, cap, cur, rfl, _, hg, hnc, _, hs, ht⟩
  · refine ⟨none, 0, by rw [hn], fun i p hp => ?_⟩
    rw [List.getElem?_eq_none (by omega)] at hp
    cases hp
  · refine ⟨some ⟨g, 0, none⟩, cap, rfl, fun i p hp => ⟨g, rfl, ?_⟩⟩
    have hcell : ∀ k u, (W s.waits)[k]? = some u → w.cell? ⟨g, k, none⟩ = some u := by
      intro k u hu
      rw [cell_of_row w g k cur _ (0, 0) hg]
      rw [← ht, List.getElem?_take] at hu
      split at hu
      · simpa using hu
      · cases hu
    obtain ⟨h1, h2⟩ := W_get s.waits (fun p hp => (h.good.sec p hp).2.2) i p hp
    exact ⟨hcell _ _ h1, fun j x hx => hcell _ _ (h2 j x hx)⟩

/-- What is read of a sector: the last waiting write of it, or what is laid. -/
def seen (s : St) (k : Nat) : List Int :=
  match s.waits.reverse.find? (fun p => p.1 == (k : Int)) with
  | some p => p.2
  | none => (s.laid.drop (64 * k)).take 64

/-- The disk is held again, and what else was there is as it was, but for the blocks of S. -/
def DiskPost (B D L : Nat) (S : List Nat) (w : World) (s : St) (w' : World) : Prop := ∃ wv', IsDisk B w' D L wv' s ∧ Only S w w'

/-- What is left behind a write or a flush. -/
def nextLeft (armed : Bool) (left : Int) : Int := if armed = true then left - 1 else left

theorem left_ok {s : St} (hg : Good s) (hs : ¬ (s.armed = true ∧ s.left = 0)) : 0 ≤ nextLeft s.armed s.left ∧ nextLeft s.armed s.left ≤ 9223372036854775807 := by
  unfold nextLeft
  have h0 := hg.left0
  have h1 := hg.left1
  by_cases h : s.armed = true
  · rw [if_pos h]
    have : s.left ≠ 0 := fun e => hs ⟨h, e⟩
    omega
  · rw [if_neg h]; omega

/-- Laid bytes behind the laying of these writes, in order. -/
def layAll (laid : List Int) (ws : List (Int × List Int)) : List Int := ws.foldl (fun l p => putS l p.1.toNat p.2) laid
theorem layAll_snoc (laid : List Int) (ws : List (Int × List Int)) (p : Int × List Int) : layAll laid (ws ++ [p]) = putS (layAll laid ws) p.1.toNat p.2 := by simp [layAll]
theorem layAll_length {n : Nat} : ∀ (ws : List (Int × List Int)) (laid : List Int), laid.length = 64 * n → (∀ p ∈ ws, 0 ≤ p.1 ∧ p.1 < n ∧ p.2.length = 64) → (layAll laid ws).length = 64 * n
  | [], _, h, _ => h
  | p :: ws, laid, h, hw => by
    have := hw p (by simp)
    exact layAll_length ws _ (putS_length h (by omega) this.2.2) (fun q hq => hw q (by simp [hq]))

/-- What Flush makes of a state. -/
def St.flush (s : St) : Int × St :=
  if s.on = false then (9, s)
  else if s.armed = true ∧ s.left = 0 then (9, { s with on := false })
  else (0, { s with left := nextLeft s.armed s.left, laid := layAll s.laid s.waits, waits := [], fl := s.fl + 1 })

/-- What Write makes of a state: the error's number, the state behind it. -/
def St.write (s : St) (no : Int) (bs : List Int) : Int × St :=
  if s.on = false then (9, s)
  else if ¬ (0 ≤ no ∧ no < s.n ∧ bs.length = 64) then (1, s)
  else if s.armed = true ∧ s.left = 0 then (9, { s with on := false })
  else (0, { s with left := nextLeft s.armed s.left, waits := s.waits ++ [(no, bs)], wr := s.wr + 1 })

end Go.Proofs.YtkmkblhmjeeaeaaGreatDoor
end

/-
  The small methods of a disk and of its power: what each call does, said of cells. Conditions: the disk's block is known.
-/

section
set_option maxRecDepth 100000
set_option linter.unusedSimpArgs false
set_option linter.unusedVariables false
namespace Go.Proofs.YtkmkblhmjeeaeaaGreatDoor
open Go.RowKit

theorem on_nil (w : World) : Calls Tryz.prog 47 #[.pointer none] w fun e w' => e = .returned (.bool false) ∧ w = w' := by
  go_enter Tryz.func47, Tryz.ntmps47
  go_wp2
  go_ret
  exact ⟨rfl, rfl⟩

theorem on_any (w : World) (D : Nat) (b : Bool) (h0 : w.cell? ⟨D, 0, none⟩ = some (.bool b)) : Calls Tryz.prog 47 #[.pointer (some ⟨D, 0, none⟩)] w fun e w' => e = .returned (.bool b) ∧ w = w' := by
  go_enter Tryz.func47, Tryz.ntmps47
  go_wp2
  go_ret
  exact ⟨rfl, rfl⟩

theorem sectors_nil (w : World) : Calls Tryz.prog 108 #[.pointer none] w fun e w' => e = .returned (.int .i64 0) ∧ w = w' := by
  go_enter Tryz.func108, Tryz.ntmps108
  go_wp2
  go_ret
  exact ⟨rfl, rfl⟩

theorem sectors_any (w : World) (D L n lc : Nat) (hn : n ≤ 4096) (h3 : w.cell? ⟨D, 3, none⟩ = some (.slice (some ⟨L, 0, none⟩) (64 * n) lc)) :
    Calls Tryz.prog 108 #[.pointer (some ⟨D, 0, none⟩)] w fun e w' => e = .returned (.int .i64 n) ∧ w = w' := by
  go_enter Tryz.func108, Tryz.ntmps108
  go_wp2
  go_ret
  exact ⟨by congr 1, rfl⟩

theorem has_any (w : World) (D L n lc : Nat) (no : Int) (hn : n ≤ 4096) (h3 : w.cell? ⟨D, 3, none⟩ = some (.slice (some ⟨L, 0, none⟩) (64 * n) lc)) :
    Calls Tryz.prog 99 #[.pointer (some ⟨D, 0, none⟩), .int .i64 no] w fun e w' => e = .returned (.bool (decide (0 ≤ no ∧ no < n))) ∧ w = w' := by
  go_enter Tryz.func99, Tryz.ntmps99
  by_cases h : 0 ≤ no
  · go_wp2_with (go_at_call 108; refine (sectors_any _ D L n lc hn h3).mono ?_; rintro e w' ⟨rfl, rfl⟩)
    go_ret
    exact ⟨by simp [h], rfl⟩
  · have hd : decide (0 ≤ no) = false := by simpa using h
    go_wp2_with (go_at_call 108; refine (sectors_any _ D L n lc hn h3).mono ?_; rintro e w' ⟨rfl, rfl⟩)
    go_ret
    exact ⟨by simp, rfl⟩

end Go.Proofs.YtkmkblhmjeeaeaaGreatDoor
end

/-
  The methods of a disk's power: what each call does to the three cells. Conditions: the disk's block is known.
-/

section
set_option maxRecDepth 100000
set_option linter.unusedSimpArgs false
set_option linter.unusedVariables false
namespace Go.Proofs.YtkmkblhmjeeaeaaGreatDoor
open Go.RowKit

theorem cut_any (w : World) (D : Nat) (b : Bool) (h0 : w.cell? ⟨D, 0, none⟩ = some (.bool b)) (f0 : w.frozen? ⟨D, 0, none⟩ = false) :
    Calls Tryz.prog 144 #[.pointer (some ⟨D, 0, none⟩)] w fun e w' => e = .returned (.tuple #[]) ∧ w.setCell ⟨D, 0, none⟩ (.bool false) = w' := by
  go_enter Tryz.func144, Tryz.ntmps144
  go_wp2
  go_end0
  exact ⟨rfl, rfl⟩

theorem restore_any (w : World) (D : Nat) (b c : Bool) (n : Int) (h0 : w.cell? ⟨D, 0, none⟩ = some (.bool b)) (h1 : w.cell? ⟨D, 1, none⟩ = some (.bool c)) (h2 : w.cell? ⟨D, 2, none⟩ = some (.int .i64 n))
    (f0 : w.frozen? ⟨D, 0, none⟩ = false) (f1 : w.frozen? ⟨D, 1, none⟩ = false) (f2 : w.frozen? ⟨D, 2, none⟩ = false) :
    Calls Tryz.prog 46 #[.pointer (some ⟨D, 0, none⟩)] w fun e w' => e = .returned (.tuple #[]) ∧
      ((w.setCell ⟨D, 0, none⟩ (.bool true)).setCell ⟨D, 1, none⟩ (.bool false)).setCell ⟨D, 2, none⟩ (.int .i64 0) = w' := by
  go_enter Tryz.func46, Tryz.ntmps46
  go_wp2
  go_end0
  exact ⟨rfl, rfl⟩

theorem spend_free (w : World) (D : Nat) (h1 : w.cell? ⟨D, 1, none⟩ = some (.bool false)) :
    Calls Tryz.prog 118 #[.pointer (some ⟨D, 0, none⟩)] w fun e w' => e = .returned (.bool true) ∧ w = w' := by
  go_enter Tryz.func118, Tryz.ntmps118
  go_wp2
  go_ret
  exact ⟨rfl, rfl⟩

theorem spend_none (w : World) (D : Nat) (b : Bool) (h0 : w.cell? ⟨D, 0, none⟩ = some (.bool b)) (h1 : w.cell? ⟨D, 1, none⟩ = some (.bool true)) (h2 : w.cell? ⟨D, 2, none⟩ = some (.int .i64 0)) (f0 : w.frozen? ⟨D, 0, none⟩ = false) :
    Calls Tryz.prog 118 #[.pointer (some ⟨D, 0, none⟩)] w fun e w' => e = .returned (.bool false) ∧ w.setCell ⟨D, 0, none⟩ (.bool false) = w' := by
  go_enter Tryz.func118, Tryz.ntmps118
  go_wp2_with (go_at_call 144; refine (cut_any _ D b h0 f0).mono ?_; rintro e w' ⟨rfl, rfl⟩)
  go_ret
  exact ⟨rfl, rfl⟩

theorem spend_one (w : World) (D : Nat) (n : Int) (hn : 0 < n) (hn' : n ≤ 9223372036854775807) (h1 : w.cell? ⟨D, 1, none⟩ = some (.bool true)) (h2 : w.cell? ⟨D, 2, none⟩ = some (.int .i64 n)) (f2 : w.frozen? ⟨D, 2, none⟩ = false) :
    Calls Tryz.prog 118 #[.pointer (some ⟨D, 0, none⟩)] w fun e w' => e = .returned (.bool true) ∧ w.setCell ⟨D, 2, none⟩ (.int .i64 (n - 1)) = w' := by
  have hz : (n == 0) = false := by simp; omega
  go_enter Tryz.func118, Tryz.ntmps118
  go_wp2
  go_ret
  exact ⟨rfl, rfl⟩

theorem spend_ok (w : World) (D : Nat) (on armed : Bool) (left : Int) (L n lc : Nat) (wv : Value) (wr fl : Int) (h : Blk w D 117 (dk on armed left L n lc wv wr fl))
    (hs : ¬ (armed = true ∧ left = 0)) (h0 : 0 ≤ left) (h1 : left ≤ 9223372036854775807) :
    Calls Tryz.prog 118 #[.pointer (some ⟨D, 0, none⟩)] w fun e w' => e = .returned (.bool true) ∧
      Blk w' D 117 (dk on armed (nextLeft armed left) L n lc wv wr fl) ∧ Only [D] w w' := by
  obtain ⟨c0, c1, c2, c3, c4, c5, c6⟩ := dk_cells h
  cases armed with
  | false => exact (spend_free w D c1).mono fun e w' ⟨he, hw⟩ => by subst hw; exact ⟨he, h, Only.refl _ _⟩
  | true =>
    refine (spend_one w D left (by have : left ≠ 0 := fun e => hs ⟨rfl, e⟩; omega) h1 c1 c2 (h.frozen 2)).mono fun e w' ⟨he, hw⟩ => ?_
    subst hw
    exact ⟨he, h.set_ 2 _, (Only.refl _ _).setCell (.inl (by simp)) _⟩

theorem spend_no (w : World) (D : Nat) (on : Bool) (L n lc : Nat) (wv : Value) (wr fl : Int) (h : Blk w D 117 (dk on true 0 L n lc wv wr fl)) :
    Calls Tryz.prog 118 #[.pointer (some ⟨D, 0, none⟩)] w fun e w' => e = .returned (.bool false) ∧
      Blk w' D 117 (dk false true 0 L n lc wv wr fl) ∧ Only [D] w w' := by
  obtain ⟨c0, c1, c2, c3, c4, c5, c6⟩ := dk_cells h
  refine (spend_none w D on c0 c1 c2 (h.frozen 0)).mono fun e w' ⟨he, hw⟩ => ?_
  subst hw
  exact ⟨he, h.set_ 0 _, (Only.refl _ _).setCell (.inl (by simp)) _⟩

theorem add_run {w : World} {a : Addr} {x : Int} (hx : 0 ≤ x) (hx' : x ≤ 1000000) (hc : w.cell? a = some (.int .i64 x)) (hz : w.frozen? a = false) :
    (callFunc 145 #[.pointer (some a), .int .i64 1]).run Tryz.prog w = .ok (.value (.int .i64 (x + 1))) (w.setCell a (.int .i64 (x + 1))) :=
  run_call_add Tryz.func145 (by kernel_rfl) (by kernel_rfl) (by kernel_rfl) .i64 (by kernel_rfl) hc hz (by simp [go_sem, IntKind.wrap_i64]; omega)

theorem atom_add (w : World) (a : Addr) (x : Int) (hx : 0 ≤ x) (hx' : x ≤ 1000000) (hc : w.cell? a = some (.int .i64 x)) (hz : w.frozen? a = false) :
    Calls Tryz.prog 119 #[.pointer (some a), .int .i64 1] w fun e w' => e = .returned (.int .i64 (x + 1)) ∧ w.setCell a (.int .i64 (x + 1)) = w' := by
  obtain ⟨b, o, s⟩ := a
  have hs : s = none := by
    cases s with
    | none => rfl
    | some v => simp [World.cell?] at hc; split at hc <;> simp at hc
  subst hs
  have hl := add_run hx hx' hc hz
  go_enter Tryz.func119, Tryz.ntmps119
  go_wp2
  go_ret
  exact ⟨rfl, rfl⟩

end Go.Proofs.YtkmkblhmjeeaeaaGreatDoor
end

/-
  Building a waiting write and a slice of one; a sector's bytes loaded as an array. Conditions: 64 bytes; each cell is there.
-/

section
set_option maxRecDepth 100000
set_option linter.unusedSimpArgs false
set_option linter.unusedVariables false
namespace Go.Proofs.YtkmkblhmjeeaeaaGreatDoor
open Go.RowKit

/-- The fields of a waiting write. -/
noncomputable def wfields : Array Field := match Tryz.prog.underlying 179 with | some (.struct f) => f | _ => #[]
theorem wfields_eq : Tryz.prog.underlying 179 = some (.struct wfields) := by kernel_rfl
theorem wzero (W : World) : (zeroValue 179).run Tryz.prog W = .ok (.agg (.int .i64 0 :: List.replicate 64 (.int .u8 0)).toArray) W := by kernel_rfl
theorem wplaces (W : World) : (wfields.mapM fun (f : Field) => (do pure (f.offset, ← sizeOf f.type) : Sem (Nat × Nat))).run Tryz.prog W = .ok #[(0, 1), (1, 64)] W := by kernel_rfl

theorem fill_two (a b : Value) (cs zs : List Value) (ha : a.cells = #[a]) (hb : b.cells = cs.toArray) (hc : cs.length = 64) (hz : zs.length = 64) (z : Value) :
    Instr.fill (fun i => #[(0, 1), (1, 64)][i]?) (z :: zs).toArray [(0, a), (1, b)] = some (a :: cs).toArray := by
  obtain ⟨g1, g2⟩ := Great.foldl_set 1 cs 0 (a :: zs).toArray
  have e : (#[(0, 1), (1, 64)] : Array (Nat × Nat))[0]? = some (0, 1) := rfl
  have e' : (#[(0, 1), (1, 64)] : Array (Nat × Nat))[1]? = some (1, 64) := rfl
  unfold Instr.fill
  simp only [e, ha]
  rw [if_neg (by simp)]
  unfold Instr.fill
  simp only [e', hb]
  rw [if_neg (by simp [hc, hz])]
  unfold Instr.fill
  have h0 : (#[a].zipIdx.foldl (fun cs (x : Value × Nat) => cs.setIfInBounds (0 + x.2) x.1) (z :: zs).toArray) = (a :: zs).toArray := by simp
  rw [h0, ← Array.foldl_toList, Array.toList_zipIdx]
  congr 1
  apply Array.ext_getElem?
  intro k
  rw [g2 k]
  simp only [List.getElem?_toArray, List.size_toArray, List.length_cons, hz, hc]
  by_cases h : 1 ≤ k ∧ k < 65
  · rw [if_pos ⟨by omega, by omega, by omega⟩]
    obtain ⟨m, rfl⟩ : ∃ m, k = m + 1 := ⟨k - 1, by omega⟩
    rw [List.getElem?_cons_succ]
    congr 1
  · rw [if_neg (by omega)]
    by_cases hk : k = 0
    · subst hk; rfl
    · rw [List.getElem?_eq_none (by simp [hz]; omega), List.getElem?_eq_none (by simp [hc]; omega)]

theorem run_build_waiting (no : Int) (bs : List Int) (hb : bs.length = 64) (W : World) :
    (Instr.build 179 #[(0, .int .i64 no), (1, .agg (U bs).toArray)]).run Tryz.prog W = .ok (.agg (.int .i64 no :: U bs).toArray) W := by
  have hf := fill_two (.int .i64 no) (.agg (U bs).toArray) (U bs) (List.replicate 64 (.int .u8 0)) rfl rfl (by rw [U_length, hb]) (by simp) (.int .i64 0)
  simp only [Instr.build, Sem.run_bind, wzero, Result.andThen_ok, run_underlying wfields_eq, wplaces, Value.cells, hf]
  rfl

theorem winfo : (Tryz.prog.info? 179).map (fun i => (i.zero, i.size, i.bytes)) = some (some (.agg (.int .i64 0 :: List.replicate 64 (.int .u8 0)).toArray), 65, 72) := by kernel_rfl

theorem run_slice_waiting (no : Int) (bs : List Int) (hb : bs.length = 64) (W : World) :
    (Instr.buildSlice 110 1 #[(0, .agg (.int .i64 no :: U bs).toArray)]).run Tryz.prog W = .ok (.slice (some ⟨W.heap.size, 0, none⟩) 1 1) (W.alloc (.cells (.int .i64 no :: U bs).toArray 179)) := by
  obtain ⟨i0, hi, hz0, hz1, hz2⟩ := info_parts winfo
  refine run_buildSlice W _ 179 1 _ _ i0 _ (by kernel_rfl) hi hz0 (by rw [hz1]; omega) (by rw [hz1]; omega) ?_
  have := Great.fill_whole (s := 65) (by omega) [.agg (.int .i64 no :: U bs).toArray]
    ((Array.range (1 * 65)).map ((.agg (.int .i64 0 :: List.replicate 64 (.int .u8 0)).toArray : Value).cells[· % (.agg (.int .i64 0 :: List.replicate 64 (.int .u8 0)).toArray : Value).cells.size]!)) (by
      intro v hv
      simp only [List.mem_singleton] at hv
      subst hv
      simp [Value.cells, U_length, hb]) (by simp)
  rw [hz1]
  simpa [Value.cells] using this

/-- The 64 cells from a on; are they all there? -/
def read64 (W : World) (a : Addr) : List Value := (List.range 64).map fun i => (W.cell? (a.add i)).getD undef
def all64 (W : World) (a : Addr) : Bool := (List.range 64).all fun i => (W.cell? (a.add i)).isSome
theorem read64_drew (W : World) (a : Addr) : read64 W.drew a = read64 W a := rfl
theorem all64_drew (W : World) (a : Addr) : all64 W.drew a = all64 W a := rfl
theorem read64_of {W : World} {a : Addr} {cs : List Value} (hc : cs.length = 64) (h : ∀ j u, cs[j]? = some u → W.cell? (a.add j) = some u) : all64 W a = true ∧ read64 W a = cs := by
  refine ⟨List.all_eq_true.2 fun i hi => ?_, ?_⟩
  · have hlt : i < cs.length := by rw [hc]; exact List.mem_range.1 hi
    rw [h i _ (List.getElem?_eq_getElem hlt)]; rfl
  · apply List.ext_getElem?
    intro k
    unfold read64
    rw [List.getElem?_map]
    by_cases hk : k < 64
    · have hlt : k < cs.length := by omega
      rw [List.getElem?_range hk, List.getElem?_eq_getElem hlt]
      simp [h k _ (List.getElem?_eq_getElem hlt)]
    · rw [List.getElem?_eq_none (by simp; omega), List.getElem?_eq_none (by omega)]; rfl

theorem run_arrayAt64 (W : World) (a : Addr) (c : Nat) : (Instr.arrayAt 177 (.slice (some a) 64 c)).run Tryz.prog W = .ok (.pointer (some a)) W := by kernel_rfl

theorem run_load64 (W : World) (a : Addr) (h : all64 W a = true) : (Instr.loadAt 177 (.pointer (some a))).run Tryz.prog W = .ok (.agg (read64 W a).toArray) W := by
  have hl := run_loadCells_list (P := Tryz.prog) W a (read64 W a) (fun j v hv => by
    unfold read64 at hv
    rw [List.getElem?_map] at hv
    by_cases hj : j < 64
    · rw [List.getElem?_range hj] at hv
      simp at hv
      have := List.all_eq_true.1 h j (List.mem_range.2 hj)
      obtain ⟨u, hu⟩ := Option.isSome_iff_exists.1 this
      rw [hu] at hv ⊢
      simpa using hv
    · rw [List.getElem?_eq_none (by simp; omega)] at hv
      cases hv)
  have hn : (read64 W a).length = 64 := by simp [read64]
  rw [hn] at hl
  have ha : (isAgg 177).run Tryz.prog W = .ok true W := by kernel_rfl
  have hs : (sizeOf 177).run Tryz.prog W = .ok 64 W := by kernel_rfl
  simp only [Instr.loadAt, Instr.sureAddr, Sem.run_bind, Sem.run_pure, Result.andThen_ok, loadVar, ha, hs, if_true, hl]

/-- The same three as rules on a whole operation: for a region that draws its order. -/
def all64V (W : World) : Value → Bool
  | .pointer (some a) => all64 W a
  | _ => false
def read64V (W : World) : Value → List Value
  | .pointer (some a) => read64 W a
  | _ => []
theorem all64V_ptr (W : World) (a : Addr) : all64V W (.pointer (some a)) = all64 W a := rfl
theorem read64V_ptr (W : World) (a : Addr) : read64V W (.pointer (some a)) = read64 W a := rfl
section
variable (ρ : Operand → Value) (d : Option Tmp) (t : TypeId) (p : String) (af : Array Edge) (gd : Option (Nat × Bool)) (W : World)
theorem exec_load64 (x : Operand) (h : all64V W (ρ x) = true) :
    (execOp ρ ⟨d, .load 177 x, t, p, af, gd⟩).run Tryz.prog W = .ok (.value (.agg (read64V W (ρ x)).toArray)) W := by
  generalize hv : ρ x = v at h ⊢
  unfold all64V at h
  split at h
  · simp only [execOp, hv, Sem.run_bind, run_load64 W _ h, Result.andThen_ok, Sem.run_pure, read64V]
  · cases h

def noOf : Value → Int
  | .int .i64 n => n
  | _ => 0
def bytesIn : Value → List Value
  | .agg cs => cs.toList
  | _ => []
def isWait (v u : Value) : Bool :=
  match v, u with
  | .int .i64 _, .agg cs => cs.size == 64
  | _, _ => false
theorem isWait_U (no : Int) (bs : List Int) : isWait (.int .i64 no) (.agg (U bs).toArray) = (bs.length == 64) := by simp [isWait, U_length]
theorem run_build_waiting' (no : Int) (cs : Array Value) (hb : cs.size = 64) (W : World) :
    (Instr.build 179 #[(0, .int .i64 no), (1, .agg cs)]).run Tryz.prog W = .ok (.agg (.int .i64 no :: cs.toList).toArray) W := by
  have hf := fill_two (.int .i64 no) (.agg cs) cs.toList (List.replicate 64 (.int .u8 0)) rfl (by simp [Value.cells]) (by simpa using hb) (by simp) (.int .i64 0)
  simp only [Instr.build, Sem.run_bind, wzero, Result.andThen_ok, run_underlying wfields_eq, wplaces, Value.cells, hf]
  rfl
theorem exec_build_waiting (x y : Operand) (h : isWait (ρ x) (ρ y) = true) :
    (execOp ρ ⟨d, .build 179 #[(0, x), (1, y)], t, p, af, gd⟩).run Tryz.prog W = .ok (.value (.agg (.int .i64 (noOf (ρ x)) :: bytesIn (ρ y)).toArray)) W := by
  have e : (#[(0, x), (1, y)] : Array (Nat × Operand)).map (fun (i, x) => (i, ρ x)) = #[(0, ρ x), (1, ρ y)] := by simp
  have e' : execOp ρ ⟨d, .build 179 #[(0, x), (1, y)], t, p, af, gd⟩ = (do pure (.value (← Instr.build 179 #[(0, ρ x), (1, ρ y)]))) := by
    unfold execOp
    rw [← e]
  rw [e']
  generalize ρ x = v at h ⊢
  generalize ρ y = u at h ⊢
  unfold isWait at h
  split at h
  · rename_i n cs
    simp only [Sem.run_bind, run_build_waiting' _ _ (beq_iff_eq.1 h) W, Result.andThen_ok, Sem.run_pure, noOf, bytesIn]
  · cases h

def is65 : Value → Bool
  | .agg cs => cs.size == 65
  | _ => false
theorem is65_U (no : Int) (bs : List Int) : is65 (.agg (.int .i64 no :: U bs).toArray) = (bs.length == 64) := by
  simp [is65, U_length]
theorem exec_slice_waiting (x : Operand) (h : is65 (ρ x) = true) :
    (execOp ρ ⟨d, .buildSlice 110 1 #[(0, x)], t, p, af, gd⟩).run Tryz.prog W = .ok (.value (.slice (some ⟨W.heap.size, 0, none⟩) 1 1)) (W.alloc (.cells (bytesIn (ρ x)).toArray 179)) := by
  have e : (#[(0, x)] : Array (Nat × Operand)).map (fun (i, x) => (i, ρ x)) = #[(0, ρ x)] := by simp
  have e' : execOp ρ ⟨d, .buildSlice 110 1 #[(0, x)], t, p, af, gd⟩ = (do pure (.value (← Instr.buildSlice 110 1 #[(0, ρ x)]))) := by
    unfold execOp
    rw [← e]
  rw [e']
  generalize ρ x = v at h ⊢
  unfold is65 at h
  split at h
  · rename_i cs
    have hs : cs.size = 65 := beq_iff_eq.1 h
    obtain ⟨i0, hi, hz0, hz1, hz2⟩ := info_parts winfo
    have hr := run_buildSlice W 110 179 1 #[(0, .agg cs)] cs i0 _ (by kernel_rfl) hi hz0 (by rw [hz1]; omega) (by rw [hz1]; omega) (by
      have := Great.fill_whole (s := 65) (by omega) [.agg cs]
        ((Array.range (1 * 65)).map ((.agg (.int .i64 0 :: List.replicate 64 (.int .u8 0)).toArray : Value).cells[· % (.agg (.int .i64 0 :: List.replicate 64 (.int .u8 0)).toArray : Value).cells.size]!)) (by
          intro v hv
          simp only [List.mem_singleton] at hv
          subst hv
          simpa [Value.cells] using hs) (by simp)
      rw [hz1]
      simpa [Value.cells] using this)
    simp only [Sem.run_bind, hr, Result.andThen_ok, Sem.run_pure, bytesIn, Array.toArray_toList]
  · cases h
theorem noOf_int (n : Int) : noOf (.int .i64 n) = n := rfl
theorem bytesIn_agg (cs : List Value) : bytesIn (.agg cs.toArray) = cs := rfl
end

end Go.Proofs.YtkmkblhmjeeaeaaGreatDoor
end

/-
  Write: what it does to a disk. Conditions: the disk is held; the bytes handed in lie at their address where there are 64 of them, beside the disk's own block.
-/

section
set_option maxRecDepth 100000
set_option linter.unusedSimpArgs false
set_option linter.unusedVariables false
namespace Go.Proofs.YtkmkblhmjeeaeaaGreatDoor
open Go.RowKit

theorem write_nil (w : World) (no : Int) (A : Option Addr) (m c : Nat) : Calls Tryz.prog 88 #[.pointer none, .int .i64 no, .slice A m c] w fun e w' => e = .returned (.int .i64 9) ∧ w = w' := by
  go_enter Tryz.func88, Tryz.ntmps88
  go_wp2_with (go_at_call 47; refine (on_nil _).mono ?_; rintro e w' ⟨rfl, rfl⟩)
  go_ret
  exact ⟨rfl, rfl⟩

theorem write_off (w : World) (D : Nat) (no : Int) (A : Option Addr) (m c : Nat) (h0 : w.cell? ⟨D, 0, none⟩ = some (.bool false)) :
    Calls Tryz.prog 88 #[.pointer (some ⟨D, 0, none⟩), .int .i64 no, .slice A m c] w fun e w' => e = .returned (.int .i64 9) ∧ w = w' := by
  go_enter Tryz.func88, Tryz.ntmps88
  go_wp2_with (go_at_call 47; refine (on_any _ D _ h0).mono ?_; rintro e w' ⟨rfl, rfl⟩)
  go_ret
  exact ⟨rfl, rfl⟩

theorem write_arg (w : World) (D L n lc : Nat) (no : Int) (A : Option Addr) (m c : Nat) (hn : n ≤ 4096) (h0 : w.cell? ⟨D, 0, none⟩ = some (.bool true)) (h3 : w.cell? ⟨D, 3, none⟩ = some (.slice (some ⟨L, 0, none⟩) (64 * n) lc))
    (hbad : ¬ (0 ≤ no ∧ no < n ∧ m = 64)) :
    Calls Tryz.prog 88 #[.pointer (some ⟨D, 0, none⟩), .int .i64 no, .slice A m c] w fun e w' => e = .returned (.int .i64 1) ∧ w = w' := by
  by_cases h : 0 ≤ no ∧ no < n
  · have hm : ((m : Int) != 64) = true := by
      rw [bne_iff_ne]; intro e; exact hbad ⟨h.1, h.2, by omega⟩
    have hd : decide (0 ≤ no ∧ no < n) = true := decide_eq_true h
    clear hbad h
    go_enter Tryz.func88, Tryz.ntmps88
    go_wp2_with (first | (go_at_call 47; refine (on_any _ D _ h0).mono ?_; rintro e w' ⟨rfl, rfl⟩) | (go_at_call 99; refine (has_any _ D L n lc no hn h3).mono ?_; rw [hd]; rintro e w' ⟨rfl, rfl⟩))
    go_ret
    exact ⟨rfl, rfl⟩
  · have hd : decide (0 ≤ no ∧ no < n) = false := decide_eq_false h
    clear hbad h
    go_enter Tryz.func88, Tryz.ntmps88
    go_wp2_with (first | (go_at_call 47; refine (on_any _ D _ h0).mono ?_; rintro e w' ⟨rfl, rfl⟩) | (go_at_call 99; refine (has_any _ D L n lc no hn h3).mono ?_; rw [hd]; rintro e w' ⟨rfl, rfl⟩))
    go_ret
    exact ⟨rfl, rfl⟩

theorem write_none (w : World) (D L : Nat) (n lc : Nat) (wv : Value) (wr fl : Int) (no : Int) (A : Option Addr) (c : Nat) (hd : Blk w D 117 (dk true true 0 L n lc wv wr fl)) (hn : n ≤ 4096) (h1 : 0 ≤ no) (h2 : no < n) :
    Calls Tryz.prog 88 #[.pointer (some ⟨D, 0, none⟩), .int .i64 no, .slice A 64 c] w fun e w' => e = .returned (.int .i64 9) ∧
      Blk w' D 117 (dk false true 0 L n lc wv wr fl) ∧ Only [D] w w' := by
  have hdc : decide (0 ≤ no ∧ no < n) = true := decide_eq_true ⟨h1, h2⟩
  obtain ⟨c0, c1, c2, c3, c4, c5, c6⟩ := dk_cells hd
  have HD := Lib.hid hd
  clear hd h1 h2
  go_enter Tryz.func88, Tryz.ntmps88
  go_wp2_with (first | (go_at_call 47; refine (on_any _ D _ c0).mono ?_; rintro e w' ⟨rfl, rfl⟩) | (go_at_call 99; refine (has_any _ D L n lc no hn c3).mono ?_; rw [hdc]; rintro e w' ⟨rfl, rfl⟩))
  refine (spend_no w D true L n lc wv wr fl HD.out).mono ?_
  rintro e w1 ⟨rfl, hd1, ho1⟩
  have H := Lib.hid (And.intro hd1 ho1)
  clear hd1 ho1
  go_wp2_with fail
  go_ret
  exact ⟨rfl, H.out.1, H.out.2⟩

attribute [local go_sem ↓] exec_load64 exec_build_waiting exec_slice_waiting
attribute [local go_sem] run_arrayAt64 read64_drew all64_drew all64V_ptr read64V_ptr isWait_U is65_U noOf_int bytesIn_agg

theorem W_snoc (ws : List (Int × List Int)) (no : Int) (bs : List Int) : W ws ++ (.int .i64 no :: U bs) = W (ws ++ [(no, bs)]) := by simp [W]
theorem one_cells (no : Int) (bs : List Int) : ∀ u ∈ (.int .i64 no :: U bs : List Value), u.oneCell' = true := by
  intro u hu
  rcases List.mem_cons.1 hu with rfl | hu
  · rfl
  · exact U_oneCell bs u hu

theorem block_of_add' (a : Addr) (n : Nat) : (a.add n).block = a.block := by unfold Addr.add; split <;> rfl
theorem len65 (no : Int) {bs : List Int} (h : (U bs).length = 64) : (.int .i64 no :: U bs : List Value).length = 1 * 65 := by rw [List.length_cons, h]
theorem new_cells (w : World) (cs : List Value) (t : TypeId) : ∀ j u, cs[j]? = some u → (w.alloc (.cells cs.toArray t)).cell? ((⟨w.heap.size, 0, none⟩ : Addr).add j) = some u := by
  intro j u hu
  have hadd : (⟨w.heap.size, 0, none⟩ : Addr).add j = ⟨w.heap.size, j, none⟩ := by unfold Addr.add; split <;> simp_all
  rw [hadd, (Blk.new w t cs).cell j, hu]

/-- What the last lines of Write leave: the disk again. -/
theorem write_end (B : Nat) (w w1 w2 : World) (D L : Nat) (wv : Value) (s : St) (no : Int) (bs : List Int) (g cap : Nat) (X : Obj) (left' : Int)
    (hlaid : Blk w L 5 (U s.laid ++ s.tl)) (hown : w.ownsRow B 179 65 wv s.waits.length (W s.waits)) (hdisk : Blk w D 117 (dk true s.armed s.left L s.n s.lc wv s.wr s.fl)) (hbD : B ≤ D) (hbL : B ≤ L) (hg : Good s)
    (hon : s.on = true) (h1 : 0 ≤ no) (h2 : no < s.n) (hb : bs.length = 64) (hcap : s.waits.length < 1000000) (hwr : s.wr < 1000000) (hl0 : 0 ≤ left') (hl1 : left' ≤ 9223372036854775807)
    (ho1 : Only [D] w w1) (hd2 : Blk w2 D 117 (dk true s.armed left' L s.n s.lc wv s.wr s.fl))
    (hgrow : (w1.alloc X).drew.grownBy w2 wv.ownBlock) (hown2 : w2.ownsRow B 179 65 (.slice (some ⟨g, 0, none⟩) (s.waits.length + 1) cap) (s.waits.length + 1) (W s.waits ++ (.int .i64 no :: U bs))) :
    IsDisk B ((w2.setCell ⟨D, 4, none⟩ (.slice (some ⟨g, 0, none⟩) (s.waits.length + 1) cap)).setCell ⟨D, 5, none⟩ (.int .i64 (s.wr + 1))) D L (.slice (some ⟨g, 0, none⟩) (s.waits.length + 1) cap)
      { s with left := left', waits := s.waits ++ [(no, bs)], wr := s.wr + 1 } ∧
    Only (D :: wv.ownBlock.toList) w ((w2.setCell ⟨D, 4, none⟩ (.slice (some ⟨g, 0, none⟩) (s.waits.length + 1) cap)).setCell ⟨D, 5, none⟩ (.int .i64 (s.wr + 1))) := by
  have hDL : L ≠ D := hlaid.ne_ hdisk (by decide)
  have hwL : some L ≠ wv.ownBlock := (own_blk_ne hown hlaid (by decide)).symm
  have hgD : g ≠ D := by
    have := own_blk_ne hown2 hd2 (by decide)
    simpa [Value.ownBlock] using this
  have hO : Only (D :: wv.ownBlock.toList) w w2 := by
    refine Only.grown (((ho1.mono (T := D :: wv.ownBlock.toList) (fun k hk _ => by simp at hk; simp [hk])).alloc X).drew) hgrow fun k hk => ?_
    exact .inl (by simp [hk])
  refine ⟨⟨?_, ?_, ?_, hbD, hbL, ?_⟩, ?_⟩
  · have := (hd2.set_ 4 (.slice (some ⟨g, 0, none⟩) (s.waits.length + 1) cap)).set_ 5 (.int .i64 (s.wr + 1))
    rw [hon]
    exact this
  · refine ((hlaid.only hO ?_).far (p := ⟨D, 4, none⟩) hDL _).far (p := ⟨D, 5, none⟩) hDL _
    intro h
    rcases List.mem_cons.mp h with h | h
    · exact hDL h
    · exact hwL (Option.mem_toList.mp h).symm
  · have hO2 : Only [D] w2 ((w2.setCell ⟨D, 4, none⟩ (.slice (some ⟨g, 0, none⟩) (s.waits.length + 1) cap)).setCell ⟨D, 5, none⟩ (.int .i64 (s.wr + 1))) :=
      ((Only.refl _ _).setCell (.inl (by simp)) _).setCell (.inl (by simp)) _
    have := ownsRow_only hown2 hO2 (fun k hk => by
      simp [Value.ownBlock] at hk
      subst hk
      simpa using hgD)
    rw [W_snoc] at this
    simpa using this
  · refine ⟨hg.size, hg.n1, hg.n2, ?_, hl0, hl1, by simp; omega, by have := hg.wr0; show 0 ≤ s.wr + 1; omega, by show s.wr + 1 ≤ 1000000; omega, hg.fl0, hg.fl1, hg.lc0⟩
    intro p hp
    rcases List.mem_append.1 hp with hp | hp
    · exact hg.sec p hp
    · simp only [List.mem_singleton] at hp
      subst hp
      exact ⟨h1, h2, hb⟩
  · exact (hO.setCell (.inl (by simp)) _).setCell (.inl (by simp)) _

set_option maxRecDepth 100000 in
set_option maxHeartbeats 1000000 in
theorem write_ok (B : Nat) (w : World) (D L : Nat) (wv : Value) (s : St) (no : Int) (bs : List Int) (ad : Addr) (c : Nat) (hd : IsDisk B w D L wv s) (hB : B ≤ w.heap.size) (hon : s.on = true) (h1 : 0 ≤ no) (h2 : no < s.n) (hb : bs.length = 64)
    (hbs : ∀ j u, (U bs)[j]? = some u → w.cell? (ad.add j) = some u) (hne : ad.block ≠ D) (hs : ¬ (s.armed = true ∧ s.left = 0)) (hcap : s.waits.length < 1000000) (hwr : s.wr < 1000000) :
    Calls Tryz.prog 88 #[.pointer (some ⟨D, 0, none⟩), .int .i64 no, .slice (some ad) 64 c] w fun e w' => e = .returned (.int .i64 0) ∧
      DiskPost B D L (D :: wv.ownBlock.toList) w { s with left := nextLeft s.armed s.left, waits := s.waits ++ [(no, bs)], wr := s.wr + 1 } w' := by
  obtain ⟨hdisk, hlaid, hown, hbD, hbL, hg⟩ := hd
  have hn := hg.n2
  have hw0 := hg.wr0
  have hdc : decide (0 ≤ no ∧ no < s.n) = true := decide_eq_true ⟨h1, h2⟩
  rw [hon] at hdisk
  obtain ⟨c0, c1, c2, c3, c4, c5, c6⟩ := dk_cells hdisk
  have HS := Lib.hid hs
  have HG := Lib.hid hg
  have HL := Lib.hid hlaid
  have HO := Lib.hid hown
  have HD := Lib.hid hdisk
  have HB := Lib.hid hbs
  have HON := Lib.hid hon
  have H12 := Lib.hid (And.intro h1 h2)
  have hU : (U bs).length = 64 := by rw [U_length, hb]
  clear hs hg hlaid hown hdisk h1 h2 hbs hon
  go_enter Tryz.func88, Tryz.ntmps88
  go_wp2_with (first | (go_at_call 47; refine (on_any _ D _ c0).mono ?_; rintro e w' ⟨rfl, rfl⟩) | (go_at_call 99; refine (has_any _ D L s.n s.lc no hn c3).mono ?_; rw [hdc]; rintro e w' ⟨rfl, rfl⟩))
  refine (spend_ok w D true s.armed s.left L s.n s.lc wv s.wr s.fl HD.out HS.out HG.out.left0 HG.out.left1).mono ?_
  rintro e w1 ⟨rfl, hd1, ho1⟩
  clear c0 c1 c2 c3 c4 c5 c6
  obtain ⟨c0, c1, c2, c3, c4, c5, c6⟩ := dk_cells hd1
  have hr := read64_of hU (W := w1) (a := ad) (fun j u hu => by
    rw [World.cell?_of_block (w := w) (ho1.block _ ?_ ?_)]
    · exact HB.out j u hu
    · have := World.block_lt_of_cell? w _ (HB.out j u hu); exact this
    · rw [block_of_add']; simpa using hne)
  obtain ⟨hr1, hr2⟩ := hr
  have hown1 : w1.ownsRow B 179 65 wv s.waits.length (W s.waits) := ownsRow_only HO.out ho1 (fun k hk => by
    have := own_blk_ne HO.out HD.out (by decide)
    rw [hk] at this
    simpa using this)
  have HO1 := Lib.hid hown1
  have Hd1 := Lib.hid hd1
  have Ho1 := Lib.hid ho1
  have hv : wv.ownBlock ≠ some D := own_blk_ne hown1 hd1 (by decide)
  have Hv := Lib.hid hv
  have hsz := ho1.size
  clear hown1 hd1 ho1 hv hdc hne
  obtain ⟨i0, hi, hz0, hz1, hz2⟩ := info_parts winfo
  have HI := Lib.hid hi
  have HZ0 := Lib.hid hz0
  have HZ1 := Lib.hid hz1
  have HZ2 := Lib.hid hz2
  have HU := Lib.hid hU
  have hb' : (bs.length == 64) = true := by rw [hb]; rfl
  have HB64 := Lib.hid hb
  clear hi hz0 hz1 hz2 hU hb
  have ca4 := (Blk.alloc Hd1.out (.cells (.int .i64 no :: U bs).toArray 179)).cell 4
  rw [show (dk true s.armed (nextLeft s.armed s.left) L s.n s.lc wv s.wr s.fl)[4]? = some wv from rfl] at ca4
  go_wp2_with fail
  go_region_law (refine step_append_lies _ rfl (.tmp 28) (.tmp 34) 110 rfl B 179 i0 _ 65 72 (by kernel_rfl) HI.out HZ0.out HZ1.out HZ2.out rfl (by decide) wv s.waits.length (W s.waits) rfl (HO1.out.alloc _) ⟨w1.heap.size, 0, none⟩ 1 1 (.int .i64 no :: U bs) rfl (len65 no HU.out) (new_cells w1 _ _) (one_cells no bs) (by decide) (by unfold maxLen; omega) (by omega) (by simp; omega) (w1.heap.size + 1) (by simp) ?_; intro g cap w2 hown2 hgrow hwhere hlt; have hd2 : Blk w2 D 117 (dk true s.armed (nextLeft s.armed s.left) L s.n s.lc wv s.wr s.fl) := Blk.grown (Blk.drew (Blk.alloc Hd1.out (.cells (.int .i64 no :: U bs).toArray 179))) hgrow (Ne.symm Hv.out); have Hd2 := Lib.hid hd2; have c4' := (dk_cells hd2).2.2.2.2.1; have f4' := hd2.frozen 4; have Hown2 := Lib.hid hown2; have Hgrow := Lib.hid hgrow; have Hwhere := Lib.hid hwhere; clear hown2 hgrow hwhere hd2)
  all_goals
    have H3 : Blk (w2.setCell ⟨D, 4, none⟩ (.slice (some ⟨g, 0, none⟩) (s.waits.length + 1) cap)) D 117 (dk true s.armed (nextLeft s.armed s.left) L s.n s.lc (.slice (some ⟨g, 0, none⟩) (s.waits.length + 1) cap) s.wr s.fl) := Hd2.out.set_ 4 _
    have c5'' := (dk_cells H3).2.2.2.2.2.1
    have f5'' := H3.frozen 5
    have HH3 := Lib.hid H3
    clear H3 c4' f4' c0 c1 c2 c3 c4 c5 c6 hr1 hr2 ca4
    go_wp2_with (go_at_call 119; refine (atom_add _ ⟨D, 5, none⟩ s.wr hw0 (by omega) c5'' f5'').mono ?_; rintro e w' ⟨rfl, rfl⟩)
    go_ret
    exact ⟨rfl, _, write_end B w w1 w2 D L wv s no bs g cap _ _ HL.out HO.out HD.out hbD hbL HG.out HON.out H12.out.1 H12.out.2 HB64.out hcap hwr (left_ok HG.out HS.out).1 (left_ok HG.out HS.out).2 Ho1.out Hd2.out Hgrow.out Hown2.out⟩

/-- Write, in whatever state. -/
theorem write_any (B : Nat) (w : World) (D L : Nat) (wv : Value) (s : St) (no : Int) (bs : List Int) (A : Option Addr) (m c : Nat) (hd : IsDisk B w D L wv s) (hB : B ≤ w.heap.size) (hm : bs.length = m)
    (hbs : m = 64 → ∃ ad, A = some ad ∧ ad.block ≠ D ∧ ∀ j u, (U bs)[j]? = some u → w.cell? (ad.add j) = some u) (hcap : s.waits.length < 1000000) (hwr : s.wr < 1000000) :
    Calls Tryz.prog 88 #[.pointer (some ⟨D, 0, none⟩), .int .i64 no, .slice A m c] w fun e w' => e = .returned (.int .i64 (s.write no bs).1) ∧
      DiskPost B D L (D :: wv.ownBlock.toList) w (s.write no bs).2 w' := by
  obtain ⟨c0, c1, c2, c3, c4, c5, c6⟩ := dk_cells hd.disk
  unfold St.write
  by_cases hon : s.on = false
  · rw [if_pos hon]
    rw [hon] at c0
    exact (write_off w D no A m c c0).mono fun e w' ⟨he, hw⟩ => ⟨he, by subst hw; exact ⟨wv, hd, Only.refl _ _⟩⟩
  rw [if_neg hon]
  have hon' : s.on = true := by cases h : s.on <;> simp_all
  by_cases hbad : 0 ≤ no ∧ no < s.n ∧ bs.length = 64
  · rw [if_neg (fun h => h hbad)]
    obtain ⟨h1, h2, h64⟩ := hbad
    have hm64 : m = 64 := by omega
    subst hm64
    obtain ⟨ad, rfl, hne, hc⟩ := hbs rfl
    by_cases hs : s.armed = true ∧ s.left = 0
    · rw [if_pos hs]
      have hdisk := hd.disk
      rw [hon', hs.1, hs.2] at hdisk
      refine (write_none w D L s.n s.lc wv s.wr s.fl no _ c hdisk hd.good.n2 h1 h2).mono fun e w' ⟨he, hb, ho⟩ => ⟨he, wv, ⟨?_, ?_, ?_, hd.baseD, hd.baseL, ?_⟩, ho.mono (by intro k hk _; simp at hk; simp [hk])⟩
      · show Blk w' D _ (dk false s.armed s.left L s.n s.lc wv s.wr s.fl)
        rw [hs.1, hs.2]; exact hb
      · exact hd.laid.only ho (by simpa using hd.laid.ne_ hd.disk (by decide))
      · refine ownsRow_only hd.own ho fun k hk => ?_
        have := own_blk_ne hd.own hd.disk (by decide)
        rw [hk] at this
        simpa using this
      · obtain ⟨g1, g2, g3, g4, g5, g6, g7, g8, g9, g10, g11, g12⟩ := hd.good
        exact ⟨g1, g2, g3, g4, g5, g6, g7, g8, g9, g10, g11, g12⟩
    · rw [if_neg hs]
      exact write_ok B w D L wv s no bs ad c hd hB hon' h1 h2 h64 hc hne hs hcap hwr
  · rw [if_pos hbad]
    rw [hon'] at c0
    exact (write_arg w D L s.n s.lc no A m c hd.good.n2 c0 c3 (fun h => hbad ⟨h.1, h.2.1, by omega⟩)).mono fun e w' ⟨he, hw⟩ => ⟨he, by subst hw; exact ⟨wv, hd, Only.refl _ _⟩⟩

end Go.Proofs.YtkmkblhmjeeaeaaGreatDoor
end

/-
  A sector's laid bytes as a slice; the laying of a waiting write. Conditions: the disk's block and its laid bytes are known; the sector is there.
-/

section
set_option maxRecDepth 100000
set_option linter.unusedSimpArgs false
set_option linter.unusedVariables false
namespace Go.Proofs.YtkmkblhmjeeaeaaGreatDoor
open Go.RowKit

theorem ret_slice {A : Option Addr} {n n' c c' : Nat} (h : n = n') (h2 : c = c') : Ending.returned (.slice A n c) = .returned (.slice A n' c') := by rw [h, h2]

theorem sector_any (w : World) (D L n lc k : Nat) (hlc : 64 * n ≤ lc) (hn : n ≤ 4096) (hk : k < n) (h3 : w.cell? ⟨D, 3, none⟩ = some (.slice (some ⟨L, 0, none⟩) (64 * n) lc)) :
    Calls Tryz.prog 100 #[.pointer (some ⟨D, 0, none⟩), .int .i64 k] w fun e w' => e = .returned (.slice (some ⟨L, k * 64, none⟩) 64 (lc - k * 64)) ∧ w = w' := by
  go_enter Tryz.func100, Tryz.ntmps100
  go_wp2
  go_ret
  exact ⟨ret_slice (by omega) rfl, rfl⟩

set_option maxRecDepth 100000 in
theorem lay_any (w : World) (D L G o n lc k : Nat) (laid bs : List Int) (tl : List Value) (hlc : 64 * n ≤ lc) (hn : n ≤ 4096) (hk : k < n) (h3 : w.cell? ⟨D, 3, none⟩ = some (.slice (some ⟨L, 0, none⟩) (64 * n) lc))
    (hL : Blk w L 5 (U laid ++ tl)) (hl : laid.length = 64 * n) (hb : bs.length = 64) (hno : w.cell? ⟨G, o, none⟩ = some (.int .i64 k)) (hbs : ∀ j x, bs[j]? = some x → w.cell? ⟨G, o + 1 + j, none⟩ = some (.int .u8 x)) :
    Calls Tryz.prog 120 #[.pointer (some ⟨D, 0, none⟩), .pointer (some ⟨G, o, none⟩)] w fun e w' => e = .returned (.tuple #[]) ∧ Blk w' L 5 (U (putS laid k bs) ++ tl) ∧ Only [L] w w' := by
  have Hl := Lib.hid hl
  have Hb := Lib.hid hb
  have HL := Lib.hid hL
  have Hbs := Lib.hid hbs
  clear hl hb hL hbs
  go_enter Tryz.func120, Tryz.ntmps120
  go_wp2_with fail
  refine wp_region_still_tail 10 (by kernel_rfl) (by kernel_rfl) ?_

  simp only [List.take_succ_cons, List.take_zero, List.drop_succ_cons, List.drop_zero]
  still_step
  still_step
  still_step
  still_step
  still_step

  still_call ((sector_any w.drew D L n lc k hlc hn hk h3).mono fun _ _ ⟨he, hw⟩ => ⟨he, hw.symm⟩)
  repeat still_step
  try refine wpStill_nil ?_
  change wpList _ _ _ _ _ w.drew
  refine wpList_copy_own rfl _ _ 40 40 rfl 5 (by kernel_rfl) (by kernel_rfl) L (k * 64) 64 _ ⟨G, o + 1, none⟩ 64 64 rfl rfl _ 5 HL.out.drew (U bs) ?c1 ?c2 ?c3 (U_oneCell bs) ?_
  case c1 => rw [U_length, Hb.out]; rfl
  case c2 =>
    intro j v hv
    rw [U_get] at hv
    cases hx : bs[j]? with
    | none => rw [hx] at hv; simp at hv
    | some x =>
      rw [hx] at hv
      simp at hv
      subst hv
      have := Hbs.out j x hx
      simpa [Addr.add_lit] using this
  case c3 => simp only [U_length, List.size_toArray, List.length_append, Hb.out, Hl.out]; omega
  have E : (((U laid ++ tl).toArray).toList.take (k * 64) ++ (U bs ++ ((U laid ++ tl).toArray).toList.drop (k * 64 + (U bs).length))) = U (putS laid k bs) ++ tl := by
    have hul : (U laid).length = 64 * n := by rw [U_length, Hl.out]
    show (U laid ++ tl).take (k * 64) ++ (U bs ++ (U laid ++ tl).drop (k * 64 + (U bs).length)) = _
    rw [List.take_append_of_le_length (by omega), List.drop_append_of_le_length (by rw [U_length, Hb.out]; omega)]
    simp only [U_length, Hb.out, putS, U_append, ← U_take, ← U_drop, Nat.mul_comm k 64, List.append_assoc]
  rw [E]
  generalize hw' : w.drew.setRow L (U (putS laid k bs) ++ tl).toArray = w'
  have hB : Blk w' L 5 (U (putS laid k bs) ++ tl) := by rw [← hw']; exact setRow_heap _ _ _ _ _ _ HL.out.drew
  have hO : Only [L] w w' := by rw [← hw']; exact ((Only.refl _ w).drew).setRow (.inl (by simp)) _
  have H := Lib.hid (And.intro hB hO)
  clear hB hO hw' E
  go_wp2
  go_end0
  exact ⟨rfl, H.out.1, H.out.2⟩

end Go.Proofs.YtkmkblhmjeeaeaaGreatDoor
end
