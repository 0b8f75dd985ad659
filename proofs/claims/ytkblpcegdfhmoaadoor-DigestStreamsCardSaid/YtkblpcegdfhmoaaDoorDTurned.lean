/-
  The document's turned: a word's bits, to the right. Condition: 1 to 31 bits.
-/
import Derived.Test.YtkblpcegdfhmoaaDoorDSpread
namespace Go.Proofs.YtkblpcegdfhmoaaDoor
open Go.RowKit

theorem rr_nat (x : B32) (n : Nat) (hn : n ≤ 32) : (rr x n).toNat = x.toNat / 2 ^ n + x.toNat % 2 ^ n * 2 ^ (32 - n) := by
  have hx := x.isLt
  have h32 : (2 : Nat) ^ 32 = 2 ^ n * 2 ^ (32 - n) := by rw [← Nat.pow_add]; congr 1; omega
  rw [rr_eq, BitVec.toNat_or, BitVec.toNat_shiftLeft, BitVec.toNat_ushiftRight, Nat.shiftLeft_eq, Nat.shiftRight_eq_div_pow]
  have e : x.toNat * 2 ^ (32 - n) % 2 ^ 32 = 2 ^ (32 - n) * (x.toNat % 2 ^ n) := by
    rw [h32, Nat.mul_mod_mul_right, Nat.mul_comm]
  have hl : x.toNat / 2 ^ n < 2 ^ (32 - n) := by
    rw [Nat.div_lt_iff_lt_mul (Nat.two_pow_pos n), Nat.mul_comm, ← h32]
    exact hx
  rw [e, ← Nat.two_pow_add_eq_or_of_lt hl, Nat.mul_comm (2 ^ (32 - n)), Nat.add_comm]
theorem rr_int (x : B32) (n : Nat) (hn : n ≤ 32) : nw x / 2 ^ n + nw x % 2 ^ n * 2 ^ (32 - n) = nw (rr x n) := by
  have h := rr_nat x n hn
  unfold nw
  rw [h]
  norm_cast

theorem turned_7 (w : World) (x : B32) : Calls Tryd.prog 33 #[.int .i64 (nw x), .int .i64 7] w fun e w' => e = .returned (.int .i64 (nw (rr x 7))) ∧ ∃ k, w' = w.drewN k := by
  have hx := nw_bound x
  have hr : nw x / 128 + nw x % 128 * 33554432 = nw (rr x 7) := rr_int x 7 (by omega)
  go_enter Tryd.func33, Tryd.ntmps33
  go_wp2_with fail
  go_quiet (fail)
  go_wp2_with fail
  go_ret
  exact ⟨rfl, _, rfl⟩
theorem turned_18 (w : World) (x : B32) : Calls Tryd.prog 33 #[.int .i64 (nw x), .int .i64 18] w fun e w' => e = .returned (.int .i64 (nw (rr x 18))) ∧ ∃ k, w' = w.drewN k := by
  have hx := nw_bound x
  have hr : nw x / 262144 + nw x % 262144 * 16384 = nw (rr x 18) := rr_int x 18 (by omega)
  go_enter Tryd.func33, Tryd.ntmps33
  go_wp2_with fail
  go_quiet (fail)
  go_wp2_with fail
  go_ret
  exact ⟨rfl, _, rfl⟩
theorem turned_17 (w : World) (x : B32) : Calls Tryd.prog 33 #[.int .i64 (nw x), .int .i64 17] w fun e w' => e = .returned (.int .i64 (nw (rr x 17))) ∧ ∃ k, w' = w.drewN k := by
  have hx := nw_bound x
  have hr : nw x / 131072 + nw x % 131072 * 32768 = nw (rr x 17) := rr_int x 17 (by omega)
  go_enter Tryd.func33, Tryd.ntmps33
  go_wp2_with fail
  go_quiet (fail)
  go_wp2_with fail
  go_ret
  exact ⟨rfl, _, rfl⟩
theorem turned_19 (w : World) (x : B32) : Calls Tryd.prog 33 #[.int .i64 (nw x), .int .i64 19] w fun e w' => e = .returned (.int .i64 (nw (rr x 19))) ∧ ∃ k, w' = w.drewN k := by
  have hx := nw_bound x
  have hr : nw x / 524288 + nw x % 524288 * 8192 = nw (rr x 19) := rr_int x 19 (by omega)
  go_enter Tryd.func33, Tryd.ntmps33
  go_wp2_with fail
  go_quiet (fail)
  go_wp2_with fail
  go_ret
  exact ⟨rfl, _, rfl⟩
theorem turned_6 (w : World) (x : B32) : Calls Tryd.prog 33 #[.int .i64 (nw x), .int .i64 6] w fun e w' => e = .returned (.int .i64 (nw (rr x 6))) ∧ ∃ k, w' = w.drewN k := by
  have hx := nw_bound x
  have hr : nw x / 64 + nw x % 64 * 67108864 = nw (rr x 6) := rr_int x 6 (by omega)
  go_enter Tryd.func33, Tryd.ntmps33
  go_wp2_with fail
  go_quiet (fail)
  go_wp2_with fail
  go_ret
  exact ⟨rfl, _, rfl⟩
theorem turned_11 (w : World) (x : B32) : Calls Tryd.prog 33 #[.int .i64 (nw x), .int .i64 11] w fun e w' => e = .returned (.int .i64 (nw (rr x 11))) ∧ ∃ k, w' = w.drewN k := by
  have hx := nw_bound x
  have hr : nw x / 2048 + nw x % 2048 * 2097152 = nw (rr x 11) := rr_int x 11 (by omega)
  go_enter Tryd.func33, Tryd.ntmps33
  go_wp2_with fail
  go_quiet (fail)
  go_wp2_with fail
  go_ret
  exact ⟨rfl, _, rfl⟩
theorem turned_25 (w : World) (x : B32) : Calls Tryd.prog 33 #[.int .i64 (nw x), .int .i64 25] w fun e w' => e = .returned (.int .i64 (nw (rr x 25))) ∧ ∃ k, w' = w.drewN k := by
  have hx := nw_bound x
  have hr : nw x / 33554432 + nw x % 33554432 * 128 = nw (rr x 25) := rr_int x 25 (by omega)
  go_enter Tryd.func33, Tryd.ntmps33
  go_wp2_with fail
  go_quiet (fail)
  go_wp2_with fail
  go_ret
  exact ⟨rfl, _, rfl⟩
theorem turned_2 (w : World) (x : B32) : Calls Tryd.prog 33 #[.int .i64 (nw x), .int .i64 2] w fun e w' => e = .returned (.int .i64 (nw (rr x 2))) ∧ ∃ k, w' = w.drewN k := by
  have hx := nw_bound x
  have hr : nw x / 4 + nw x % 4 * 1073741824 = nw (rr x 2) := rr_int x 2 (by omega)
  go_enter Tryd.func33, Tryd.ntmps33
  go_wp2_with fail
  go_quiet (fail)
  go_wp2_with fail
  go_ret
  exact ⟨rfl, _, rfl⟩
theorem turned_13 (w : World) (x : B32) : Calls Tryd.prog 33 #[.int .i64 (nw x), .int .i64 13] w fun e w' => e = .returned (.int .i64 (nw (rr x 13))) ∧ ∃ k, w' = w.drewN k := by
  have hx := nw_bound x
  have hr : nw x / 8192 + nw x % 8192 * 524288 = nw (rr x 13) := rr_int x 13 (by omega)
  go_enter Tryd.func33, Tryd.ntmps33
  go_wp2_with fail
  go_quiet (fail)
  go_wp2_with fail
  go_ret
  exact ⟨rfl, _, rfl⟩
theorem turned_22 (w : World) (x : B32) : Calls Tryd.prog 33 #[.int .i64 (nw x), .int .i64 22] w fun e w' => e = .returned (.int .i64 (nw (rr x 22))) ∧ ∃ k, w' = w.drewN k := by
  have hx := nw_bound x
  have hr : nw x / 4194304 + nw x % 4194304 * 1024 = nw (rr x 22) := rr_int x 22 (by omega)
  go_enter Tryd.func33, Tryd.ntmps33
  go_wp2_with fail
  go_quiet (fail)
  go_wp2_with fail
  go_ret
  exact ⟨rfl, _, rfl⟩

end Go.Proofs.YtkblpcegdfhmoaaDoor
