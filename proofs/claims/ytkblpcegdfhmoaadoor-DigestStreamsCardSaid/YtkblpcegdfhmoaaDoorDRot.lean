/-
  The small functions of words: each is plain arithmetic. No condition.
-/
import Derived.Test.YtkblpcegdfhmoaaDoorProg
import Derived.Test.YtkblpcegdfhmoaaDoorDBits
namespace Go.Proofs.YtkblpcegdfhmoaaDoor
open Go.RowKit

attribute [local go_sem] add_u32 xor_u32 and_u32 or_u32 not_u32 shl_u32 shr_u32 div_u32 div_8 div_3 div_16 div_10 div_24

theorem rot_any (w : World) (x : B32) (k : Int) (s : Nat) (hk : bits .and .u64 (IntKind.u64.wrap k) 31 = s) (hs : s ≤ 31) : Calls Tryd.prog 40 #[.int .u32 (nw x), .int .i64 k] w fun e w' => e = .returned (.int .u32 (nw ((x <<< s) ||| (x >>> (32 - s))))) ∧ w = w' := by
  have hx := nw_bound x
  go_enter Tryd.func40, Tryd.ntmps40
  go_wp2
  go_ret
  exact ⟨rfl, rfl⟩

/-- A turn to the right by k. -/
theorem rot_right (w : World) (x : B32) (k : Nat) (hk : 1 ≤ k ∧ k ≤ 31) : Calls Tryd.prog 40 #[.int .u32 (nw x), .int .i64 (-(k : Int))] w fun e w' => e = .returned (.int .u32 (nw (rr x k))) ∧ w = w' := by
  have h : ∀ k : Nat, k < 32 → 1 ≤ k → bits .and .u64 (IntKind.u64.wrap (-(k : Int))) 31 = ((32 - k : Nat) : Int) := by decide +kernel
  refine (rot_any w x (-(k : Int)) (32 - k) (h k (by omega) hk.1) (by omega)).mono ?_
  rintro e w' ⟨rfl, rfl⟩
  exact ⟨by rw [show 32 - (32 - k) = k by omega, ← rr_eq], rfl⟩

theorem chosen_any (w : World) (x y z : B32) : Calls Tryd.prog 38 #[.int .u32 (nw x), .int .u32 (nw y), .int .u32 (nw z)] w fun e w' => e = .returned (.int .u32 (nw ((x &&& y) ^^^ (~~~x &&& z)))) ∧ w = w' := by
  go_enter Tryd.func38, Tryd.ntmps38
  go_wp2
  go_ret
  exact ⟨rfl, rfl⟩

theorem most_any (w : World) (x y z : B32) : Calls Tryd.prog 39 #[.int .u32 (nw x), .int .u32 (nw y), .int .u32 (nw z)] w fun e w' => e = .returned (.int .u32 (nw ((x &&& y) ^^^ (x &&& z) ^^^ (y &&& z)))) ∧ w = w' := by
  go_enter Tryd.func39, Tryd.ntmps39
  go_wp2
  go_ret
  exact ⟨rfl, rfl⟩

theorem around_any (w : World) (x : B32) (a b c : Nat) (ha : 1 ≤ a ∧ a ≤ 31) (hb : 1 ≤ b ∧ b ≤ 31) (hc : 1 ≤ c ∧ c ≤ 31) : Calls Tryd.prog 37 #[.int .u32 (nw x), .int .i64 a, .int .i64 b, .int .i64 c] w fun e w' => e = .returned (.int .u32 (nw (rr x a ^^^ rr x b ^^^ rr x c))) ∧ w = w' := by
  go_enter Tryd.func37, Tryd.ntmps37
  go_wp2_with (go_at_call 40; refine (rot_right _ x _ (by assumption)).mono ?_; rintro e w' ⟨rfl, rfl⟩)
  go_ret
  exact ⟨rfl, rfl⟩

end Go.Proofs.YtkblpcegdfhmoaaDoor
