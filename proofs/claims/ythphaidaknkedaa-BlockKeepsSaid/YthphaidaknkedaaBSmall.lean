/-
  The small methods of a disk and of its power: what each call does, said of cells. Conditions: the disk's block is known.
-/
import Derived.Test.YthphaidaknkedaaProg
import Derived.Test.YthphaidaknkedaaBState
namespace Go.Proofs.Ythphaidaknkedaa
open Go.RowKit

theorem on_nil (w : World) : Calls Try.prog 28 #[.pointer none] w fun e w' => e = .returned (.bool false) ∧ w = w' := by
  go_enter Try.func28, Try.ntmps28
  go_wp2
  go_ret
  exact ⟨rfl, rfl⟩

theorem on_any (w : World) (D : Nat) (b : Bool) (h0 : w.cell? ⟨D, 0, none⟩ = some (.bool b)) : Calls Try.prog 28 #[.pointer (some ⟨D, 0, none⟩)] w fun e w' => e = .returned (.bool b) ∧ w = w' := by
  go_enter Try.func28, Try.ntmps28
  go_wp2
  go_ret
  exact ⟨rfl, rfl⟩

theorem sectors_nil (w : World) : Calls Try.prog 9 #[.pointer none] w fun e w' => e = .returned (.int .i64 0) ∧ w = w' := by
  go_enter Try.func9, Try.ntmps9
  go_wp2
  go_ret
  exact ⟨rfl, rfl⟩

theorem sectors_any (w : World) (D L n lc : Nat) (hn : n ≤ 4096) (h3 : w.cell? ⟨D, 3, none⟩ = some (.slice (some ⟨L, 0, none⟩) (64 * n) lc)) :
    Calls Try.prog 9 #[.pointer (some ⟨D, 0, none⟩)] w fun e w' => e = .returned (.int .i64 n) ∧ w = w' := by
  go_enter Try.func9, Try.ntmps9
  go_wp2
  go_ret
  exact ⟨by congr 1, rfl⟩

theorem has_any (w : World) (D L n lc : Nat) (no : Int) (hn : n ≤ 4096) (h3 : w.cell? ⟨D, 3, none⟩ = some (.slice (some ⟨L, 0, none⟩) (64 * n) lc)) :
    Calls Try.prog 32 #[.pointer (some ⟨D, 0, none⟩), .int .i64 no] w fun e w' => e = .returned (.bool (decide (0 ≤ no ∧ no < n))) ∧ w = w' := by
  go_enter Try.func32, Try.ntmps32
  by_cases h : 0 ≤ no
  · go_wp2_with (go_at_call 9; refine (sectors_any _ D L n lc hn h3).mono ?_; rintro e w' ⟨rfl, rfl⟩)
    go_ret
    exact ⟨by simp [h], rfl⟩
  · have hd : decide (0 ≤ no) = false := by simpa using h
    go_wp2_with (go_at_call 9; refine (sectors_any _ D L n lc hn h3).mono ?_; rintro e w' ⟨rfl, rfl⟩)
    go_ret
    exact ⟨by simp, rfl⟩

theorem waiting_nil (w : World) : Calls Try.prog 27 #[.pointer none] w fun e w' => e = .returned (.int .i64 0) ∧ w = w' := by
  go_enter Try.func27, Try.ntmps27
  go_wp2
  go_ret
  exact ⟨rfl, rfl⟩

theorem waiting_any (w : World) (D n c : Nat) (A : Option Addr) (h4 : w.cell? ⟨D, 4, none⟩ = some (.slice A n c)) :
    Calls Try.prog 27 #[.pointer (some ⟨D, 0, none⟩)] w fun e w' => e = .returned (.int .i64 n) ∧ w = w' := by
  go_enter Try.func27, Try.ntmps27
  go_wp2
  go_ret
  exact ⟨rfl, rfl⟩

theorem load_run {w : World} {a : Addr} {x : Int} (hc : w.cell? a = some (.int .i64 x)) :
    (callFunc 50 #[.pointer (some a)]).run Try.prog w = .ok (.value (.int .i64 x)) w :=
  run_call_load Try.func50 (by kernel_rfl) (by kernel_rfl) (by kernel_rfl) .i64 (by kernel_rfl) hc

theorem writes_nil (w : World) : Calls Try.prog 29 #[.pointer none] w fun e w' => e = .returned (.int .i64 0) ∧ w = w' := by
  go_enter Try.func29, Try.ntmps29
  go_wp2
  go_ret
  exact ⟨rfl, rfl⟩

theorem writes_any (w : World) (D : Nat) (x : Int) (h5 : w.cell? ⟨D, 5, none⟩ = some (.int .i64 x)) :
    Calls Try.prog 29 #[.pointer (some ⟨D, 0, none⟩)] w fun e w' => e = .returned (.int .i64 x) ∧ w = w' := by
  have hl := load_run h5
  go_enter Try.func29, Try.ntmps29
  go_wp2
  go_ret
  exact ⟨rfl, rfl⟩

theorem flushes_nil (w : World) : Calls Try.prog 30 #[.pointer none] w fun e w' => e = .returned (.int .i64 0) ∧ w = w' := by
  go_enter Try.func30, Try.ntmps30
  go_wp2
  go_ret
  exact ⟨rfl, rfl⟩

theorem flushes_any (w : World) (D : Nat) (x : Int) (h5 : w.cell? ⟨D, 6, none⟩ = some (.int .i64 x)) :
    Calls Try.prog 30 #[.pointer (some ⟨D, 0, none⟩)] w fun e w' => e = .returned (.int .i64 x) ∧ w = w' := by
  have hl := load_run h5
  go_enter Try.func30, Try.ntmps30
  go_wp2
  go_ret
  exact ⟨rfl, rfl⟩

end Go.Proofs.Ythphaidaknkedaa
