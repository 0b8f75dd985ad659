/-
  The methods of a disk's power: what each call does to the three cells. Conditions: the disk's block is known.
-/
import Derived.Test.YthphaidaknkedaaProg
import Derived.Test.YthphaidaknkedaaBState
namespace Go.Proofs.Ythphaidaknkedaa
open Go.RowKit

theorem cut_any (w : World) (D : Nat) (b : Bool) (h0 : w.cell? ⟨D, 0, none⟩ = some (.bool b)) (f0 : w.frozen? ⟨D, 0, none⟩ = false) :
    Calls Try.prog 41 #[.pointer (some ⟨D, 0, none⟩)] w fun e w' => e = .returned (.tuple #[]) ∧ w.setCell ⟨D, 0, none⟩ (.bool false) = w' := by
  go_enter Try.func41, Try.ntmps41
  go_wp2
  go_end0
  exact ⟨rfl, rfl⟩

theorem restore_any (w : World) (D : Nat) (b c : Bool) (n : Int) (h0 : w.cell? ⟨D, 0, none⟩ = some (.bool b)) (h1 : w.cell? ⟨D, 1, none⟩ = some (.bool c)) (h2 : w.cell? ⟨D, 2, none⟩ = some (.int .i64 n))
    (f0 : w.frozen? ⟨D, 0, none⟩ = false) (f1 : w.frozen? ⟨D, 1, none⟩ = false) (f2 : w.frozen? ⟨D, 2, none⟩ = false) :
    Calls Try.prog 31 #[.pointer (some ⟨D, 0, none⟩)] w fun e w' => e = .returned (.tuple #[]) ∧
      ((w.setCell ⟨D, 0, none⟩ (.bool true)).setCell ⟨D, 1, none⟩ (.bool false)).setCell ⟨D, 2, none⟩ (.int .i64 0) = w' := by
  go_enter Try.func31, Try.ntmps31
  go_wp2
  go_end0
  exact ⟨rfl, rfl⟩

theorem arm_any (w : World) (D : Nat) (c : Bool) (m n : Int) (h1 : w.cell? ⟨D, 1, none⟩ = some (.bool c)) (h2 : w.cell? ⟨D, 2, none⟩ = some (.int .i64 m))
    (f1 : w.frozen? ⟨D, 1, none⟩ = false) (f2 : w.frozen? ⟨D, 2, none⟩ = false) :
    Calls Try.prog 42 #[.pointer (some ⟨D, 0, none⟩), .int .i64 n] w fun e w' => e = .returned (.tuple #[]) ∧
      (w.setCell ⟨D, 1, none⟩ (.bool (decide (0 ≤ n)))).setCell ⟨D, 2, none⟩ (.int .i64 (max n 0)) = w' := by
  by_cases h : 0 ≤ n
  · have hm : max n 0 = n := by omega
    rw [hm, decide_eq_true h]
    clear hm
    go_enter Try.func42, Try.ntmps42
    go_wp2
    go_end0
    exact ⟨rfl, rfl⟩
  · have hm : max n 0 = 0 := by omega
    rw [hm, decide_eq_false h]
    clear hm
    go_enter Try.func42, Try.ntmps42
    go_wp2
    go_end0
    exact ⟨rfl, rfl⟩

theorem spend_free (w : World) (D : Nat) (h1 : w.cell? ⟨D, 1, none⟩ = some (.bool false)) :
    Calls Try.prog 33 #[.pointer (some ⟨D, 0, none⟩)] w fun e w' => e = .returned (.bool true) ∧ w = w' := by
  go_enter Try.func33, Try.ntmps33
  go_wp2
  go_ret
  exact ⟨rfl, rfl⟩

theorem spend_none (w : World) (D : Nat) (b : Bool) (h0 : w.cell? ⟨D, 0, none⟩ = some (.bool b)) (h1 : w.cell? ⟨D, 1, none⟩ = some (.bool true)) (h2 : w.cell? ⟨D, 2, none⟩ = some (.int .i64 0)) (f0 : w.frozen? ⟨D, 0, none⟩ = false) :
    Calls Try.prog 33 #[.pointer (some ⟨D, 0, none⟩)] w fun e w' => e = .returned (.bool false) ∧ w.setCell ⟨D, 0, none⟩ (.bool false) = w' := by
  go_enter Try.func33, Try.ntmps33
  go_wp2_with (go_at_call 41; refine (cut_any _ D b h0 f0).mono ?_; rintro e w' ⟨rfl, rfl⟩)
  go_ret
  exact ⟨rfl, rfl⟩

theorem spend_one (w : World) (D : Nat) (n : Int) (hn : 0 < n) (hn' : n ≤ 9223372036854775807) (h1 : w.cell? ⟨D, 1, none⟩ = some (.bool true)) (h2 : w.cell? ⟨D, 2, none⟩ = some (.int .i64 n)) (f2 : w.frozen? ⟨D, 2, none⟩ = false) :
    Calls Try.prog 33 #[.pointer (some ⟨D, 0, none⟩)] w fun e w' => e = .returned (.bool true) ∧ w.setCell ⟨D, 2, none⟩ (.int .i64 (n - 1)) = w' := by
  have hz : (n == 0) = false := by simp; omega
  go_enter Try.func33, Try.ntmps33
  go_wp2
  go_ret
  exact ⟨rfl, rfl⟩

theorem spend_ok (w : World) (D : Nat) (on armed : Bool) (left : Int) (L n lc : Nat) (wv : Value) (wr fl : Int) (h : Blk w D 69 (dk on armed left L n lc wv wr fl))
    (hs : ¬ (armed = true ∧ left = 0)) (h0 : 0 ≤ left) (h1 : left ≤ 9223372036854775807) :
    Calls Try.prog 33 #[.pointer (some ⟨D, 0, none⟩)] w fun e w' => e = .returned (.bool true) ∧
      Blk w' D 69 (dk on armed (nextLeft armed left) L n lc wv wr fl) ∧ Only [D] w w' := by
  obtain ⟨c0, c1, c2, c3, c4, c5, c6⟩ := dk_cells h
  cases armed with
  | false => exact (spend_free w D c1).mono fun e w' ⟨he, hw⟩ => by subst hw; exact ⟨he, h, Only.refl _ _⟩
  | true =>
    refine (spend_one w D left (by have : left ≠ 0 := fun e => hs ⟨rfl, e⟩; omega) h1 c1 c2 (h.frozen 2)).mono fun e w' ⟨he, hw⟩ => ?_
    subst hw
    exact ⟨he, h.set_ 2 _, (Only.refl _ _).setCell (.inl (by simp)) _⟩

theorem spend_no (w : World) (D : Nat) (on : Bool) (L n lc : Nat) (wv : Value) (wr fl : Int) (h : Blk w D 69 (dk on true 0 L n lc wv wr fl)) :
    Calls Try.prog 33 #[.pointer (some ⟨D, 0, none⟩)] w fun e w' => e = .returned (.bool false) ∧
      Blk w' D 69 (dk false true 0 L n lc wv wr fl) ∧ Only [D] w w' := by
  obtain ⟨c0, c1, c2, c3, c4, c5, c6⟩ := dk_cells h
  refine (spend_none w D on c0 c1 c2 (h.frozen 0)).mono fun e w' ⟨he, hw⟩ => ?_
  subst hw
  exact ⟨he, h.set_ 0 _, (Only.refl _ _).setCell (.inl (by simp)) _⟩

theorem add_run {w : World} {a : Addr} {x : Int} (hx : 0 ≤ x) (hx' : x ≤ 1000000) (hc : w.cell? a = some (.int .i64 x)) (hz : w.frozen? a = false) :
    (callFunc 46 #[.pointer (some a), .int .i64 1]).run Try.prog w = .ok (.value (.int .i64 (x + 1))) (w.setCell a (.int .i64 (x + 1))) :=
  run_call_add Try.func46 (by kernel_rfl) (by kernel_rfl) (by kernel_rfl) .i64 (by kernel_rfl) hc hz (by simp [go_sem, IntKind.wrap_i64]; omega)

theorem atom_add (w : World) (a : Addr) (x : Int) (hx : 0 ≤ x) (hx' : x ≤ 1000000) (hc : w.cell? a = some (.int .i64 x)) (hz : w.frozen? a = false) :
    Calls Try.prog 34 #[.pointer (some a), .int .i64 1] w fun e w' => e = .returned (.int .i64 (x + 1)) ∧ w.setCell a (.int .i64 (x + 1)) = w' := by
  obtain ⟨b, o, s⟩ := a
  have hs : s = none := by
    cases s with
    | none => rfl
    | some v => simp [World.cell?] at hc; split at hc <;> simp at hc
  subst hs
  have hl := add_run hx hx' hc hz
  go_enter Try.func34, Try.ntmps34
  go_wp2
  go_ret
  exact ⟨rfl, rfl⟩

end Go.Proofs.Ythphaidaknkedaa
