/-
  fourBits; strings as bytes. No condition.
-/
import Derived.Test.YtkblpcegdfhmoaaDoorDHexSpec
import Derived.Test.YtkblpcegdfhmoaaDoorDKnown
namespace Go.Proofs.YtkblpcegdfhmoaaDoor
open Go.RowKit

theorem or_u8 (x y : B8) : bits .or .u8 (nb x) (nb y) = nb (x ||| y) := by
  unfold bits
  simp only [IntKind.bits, ofInt_nb]
  rw [wrap_u8]
  simp
  rfl
theorem shl4_u8 : ∀ x : B8, IntKind.u8.wrap (nb x * 16) = nb (x <<< 4) := by decide +kernel
theorem sub48 : ∀ c : B8, 48 ≤ c.toNat → nb c - 48 = nb (c - 48#8) := by decide +kernel
theorem sub87 : ∀ c : B8, 97 ≤ c.toNat → nb c - 97 + 10 = nb (c - 87#8) := by decide +kernel
theorem nb_nat (c : B8) : nb c = (c.toNat : Int) := by unfold nb; rfl

theorem four_any (w : World) (c : B8) : Calls Tryd.prog 30 #[.int .u8 (nb c)] w fun e w' => e = .returned (.tuple #[.int .u8 (nb (valB c)), .bool (isSign c)]) ∧ w = w' := by
  have hc := nb_nat c
  have hb := c.isLt
  by_cases h1 : 48 ≤ c.toNat ∧ c.toNat ≤ 57
  · have e1 : valB c = c - 48#8 := by unfold valB; rw [if_pos h1]
    have e2 : isSign c = true := by unfold isSign; simp [h1]
    rw [e1, e2, ← sub48 c h1.1, hc]
    have g1 : (48 : Int) ≤ (c.toNat : Int) := by omega
    have g2 : (c.toNat : Int) ≤ 57 := by omega
    go_enter Tryd.func30, Tryd.ntmps30
    go_wp2
    go_ret2
    exact ⟨rfl, rfl⟩
  · by_cases h2 : 97 ≤ c.toNat ∧ c.toNat ≤ 102
    · have e1 : valB c = c - 87#8 := by unfold valB; rw [if_neg h1, if_pos h2]
      have e2 : isSign c = true := by unfold isSign; simp [h2]
      rw [e1, e2, ← sub87 c h2.1, hc]
      have g1 : (97 : Int) ≤ (c.toNat : Int) := by omega
      have g2 : (c.toNat : Int) ≤ 102 := by omega
      go_enter Tryd.func30, Tryd.ntmps30
      go_wp2
      go_ret2
      exact ⟨rfl, rfl⟩
    · have e1 : valB c = 0#8 := by unfold valB; rw [if_neg h1, if_neg h2]
      have e2 : isSign c = false := by unfold isSign; simp; omega
      have e3 : nb (0#8) = 0 := by unfold nb; rfl
      rw [e1, e2, e3, hc]
      go_enter Tryd.func30, Tryd.ntmps30
      by_cases g1 : 48 ≤ c.toNat
      · have g2 : 57 < c.toNat := by omega
        by_cases g3 : 97 ≤ c.toNat
        · have g4 : 102 < c.toNat := by omega
          go_wp2
          go_ret2
          exact ⟨rfl, rfl⟩
        · go_wp2
          go_ret2
          exact ⟨rfl, rfl⟩
      · go_wp2
        go_ret2
        exact ⟨rfl, rfl⟩

theorem str_index (T : List B8) (i : Nat) (hi : i < T.length) (W : World) : (Instr.index 9 (strOf T) (.int .i64 i)).run Tryd.prog W = .ok (.int .u8 (nb (T.getD i 0#8))) W := by
  unfold strOf
  rw [run_index_string _ _ _ _ _ Tryd.underlying9]
  have hs : (⟨(T.map UInt8.ofBitVec).toArray⟩ : ByteArray).size = T.length := by simp [ByteArray.size]
  rw [dif_pos ⟨by omega, by rw [hs]; omega⟩]
  have e : (⟨(T.map UInt8.ofBitVec).toArray⟩ : ByteArray)[i]'(by rw [hs]; exact hi) = UInt8.ofBitVec (T.getD i 0#8) := by
    rw [List.getD_eq_getElem?_getD, List.getElem?_eq_getElem hi]
    simp [ByteArray.getElem_eq_getElem_data]
  simp only [Int.toNat_natCast]
  rw [e]
  unfold nb
  rfl
theorem str_len (T : List B8) (ty : TypeId) (W : World) : (Builtin.len_ #[9] ty #[strOf T]).run Tryd.prog W = .ok (goInt T.length) W := by
  unfold strOf
  rw [run_len_string _ _ _ _ Tryd.underlying9]
  have hs : (⟨(T.map UInt8.ofBitVec).toArray⟩ : ByteArray).size = T.length := by simp [ByteArray.size]
  rw [hs]

end Go.Proofs.YtkblpcegdfhmoaaDoor
