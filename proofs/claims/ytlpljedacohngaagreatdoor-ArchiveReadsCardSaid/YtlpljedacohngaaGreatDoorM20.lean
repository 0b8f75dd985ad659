/-
  Opening what comes in: slices of bytes, slices of them. Plain theorems on readings.
-/
import Derived.Test.YtlpljedacohngaaGreatDoorM6
import Derived.ProofKit
import Derived.Deep.Slices
section
set_option maxRecDepth 100000
set_option linter.unusedSimpArgs false
set_option linter.unusedVariables false
namespace Go.Proofs.YtlpljedacohngaaGreatDoor
open Go.ChangeShapes Go.WideShapes Go.ChangeAt Go.RowKit

theorem spot_none {w : World} {a : Addr} {u : Value} (h : w.cell? a = some u) : a.spot = none := by
  unfold World.cell? at h
  split at h
  · split at h
    · cases h
    · rename_i hs; simpa using hs
  · cases h
theorem add_zero (a : Addr) : a.add 0 = a := by simp [Addr.add]
theorem byte_of {n : Int} (h : (Lit.int .u8 n).wf = true) : n = nb (BitVec.ofInt 8 n) := by
  rw [← wrap_u8]
  simp [Lit.wf, IntKind.min, IntKind.max, IntKind.signed, IntKind.bits] at h
  simp [IntKind.wrap, IntKind.signed, IntKind.bits]
  omega

section
variable {H : Type} {enc : TypeId × Value → H} {w : World} {base : Nat} {spare : Nat → Bool} {held : Bool}
theorem came_text {fuel : Nat} {v : Value} {x : DataW H × List MemPlace} (h : DataW.trod enc Tryz.prog w base spare held fuel 22 [v] = some x) : ∃ A n c bs, v = .slice A n c ∧ TxtN w w.heap.size A n c bs := by
  rcases open_ints Tryz.underlying22 Tryz.underlying5 (by kernel_rfl) h with ⟨hcs, _⟩ | ⟨a, len, cap, zs, hcs, _, hl, hm, hz, _, hcell, hwz⟩
  · simp only [List.cons.injEq, and_true] at hcs
    subst hcs
    exact ⟨none, 0, 0, [], rfl, ⟨⟨rfl, Nat.le_refl _, Nat.zero_le _, fun h => absurd h (by omega)⟩, fun _ => ⟨rfl, rfl⟩⟩⟩
  · simp only [List.cons.injEq, and_true] at hcs
    subst hcs
    have hlz : len ≤ zs.length := by rw [hz]; split <;> omega
    refine ⟨some a, len, cap, (zs.take len).map (BitVec.ofInt 8), rfl, ⟨⟨by rw [List.length_map, List.length_take]; omega, hl, hm, fun hn => ?_⟩, fun h => by cases h⟩⟩
    have h0 := hcell 0 (by omega)
    rw [add_zero] at h0
    have hs := spot_none h0
    have hlt := World.block_lt_of_cell? w _ h0
    obtain ⟨b, o, s⟩ := a
    simp only at hs
    subst hs
    refine ⟨b, o, rfl, by have h2 : b < w.heap.size := hlt; omega, fun j hj => ?_⟩
    have hjz : j < zs.length := by omega
    have hc := hcell j hjz
    rw [Addr.add_mid] at hc
    rw [hc]
    have hg : (zs.getD j 0) = zs[j] := by simp [List.getD_eq_getElem?_getD, List.getElem?_eq_getElem hjz]
    have hg2 : ((zs.take len).map (BitVec.ofInt 8)).getD j 0 = BitVec.ofInt 8 zs[j] := by
      rw [List.getD_eq_getElem?_getD, List.getElem?_map, List.getElem?_take, if_pos hj, List.getElem?_eq_getElem hjz]
      rfl
    rw [hg, hg2]
    exact congrArg (fun z => some (Value.int .u8 z)) (byte_of (hwz _ (List.getElem_mem hjz)))
theorem came_texts {fuel : Nat} {v : Value} {x : DataW H × List MemPlace} (h : DataW.trod enc Tryz.prog w base spare held fuel 77 [v] = some x) : ∃ A n c xs, v = .slice A n c ∧ n ≤ 9223372036854775807 ∧ TxtsN w w.heap.size A n xs := by
  rcases Go.Deep.open_slice1 Tryz.underlying77 (by kernel_rfl) h with ⟨hcs, _⟩ | ⟨a, len, cap, m, n, V, D, Pl, hcs, _, hl, hm, hmm, _, hx⟩
  · simp only [List.cons.injEq, and_true] at hcs
    subst hcs
    exact ⟨none, 0, 0, [], rfl, Nat.zero_le _, ⟨rfl, fun h => absurd h (by omega)⟩⟩
  · simp only [List.cons.injEq, and_true] at hcs
    subst hcs
    have hlm : len ≤ m := by rw [hmm]; split <;> omega
    have each : ∀ i, i < len → ∃ r : Option Addr × Nat × Nat × List B8, w.cell? (a.add i) = some (.slice r.1 r.2.1 r.2.2.1) ∧ TxtN w w.heap.size r.1 r.2.1 r.2.2.1 r.2.2.2 := by
      intro i hi
      obtain ⟨h1, h2⟩ := hx i (by omega)
      obtain ⟨A2, n2, c2, x2, q2, r2⟩ := came_text h2
      exact ⟨(A2, n2, c2, x2), by rw [h1, q2], r2⟩
    obtain ⟨f, hf⟩ := Go.Deep.choose_lt each
    refine ⟨some a, len, cap, (List.range len).map (fun i => (f i).2.2.2), rfl, by unfold maxLen at hm; omega, ⟨by simp, fun hn => ?_⟩⟩
    have d0 := (hf 0 hn).1
    rw [add_zero] at d0
    have hs := spot_none d0
    have hlt := World.block_lt_of_cell? w _ d0
    obtain ⟨b, o, s⟩ := a
    simp only at hs
    subst hs
    refine ⟨b, o, rfl, by have h2 : b < w.heap.size := hlt; omega, fun i y hy => ?_⟩
    have hi : i < len := by
      have := (List.getElem?_eq_some_iff.1 hy).1
      simpa using this
    rw [List.getElem?_map, List.getElem?_range hi] at hy
    simp only [Option.map_some, Option.some.injEq] at hy
    subst hy
    obtain ⟨c0, rb⟩ := hf i hi
    rw [Addr.add_mid] at c0
    exact ⟨_, _, _, c0, rb⟩
end

end Go.Proofs.YtlpljedacohngaaGreatDoor
end
