/-
  BlockKeeps: for all rows, calls and places the law returns true, and they read afterwards as before. No condition.
-/
import Derived.Test.YthphaidaknkedaaRows
import Derived.Test.YthphaidaknkedaaBKeeps
import Derived.Test.YthphaidaknkedaaBOpen
import Derived.Deep.Slices
import Derived.OpenShut
import Derived.ChangeOld
namespace Go.Proofs.Ythphaidaknkedaa
open Go.ChangeShapes Go.WideShapes Go.ChangeAt Go.RowKit
section
variable {H : Type} {enc : TypeId × Value → H} {w : World} {base : Nat} {spare : Nat → Bool} {held : Bool}
theorem came_rows {fuel : Nat} {v : Value} {x : DataW H × List MemPlace} (h : DataW.trod enc Try.prog w base spare held fuel 55 [v] = some x) :
    ∃ A n c, ∃ l : List GoRow, v = .slice A n c ∧ l.length = n ∧ n ≤ 9223372036854775807 ∧ RowsAt w.heap.size w A l := by
  rcases Go.Deep.open_slice1 Try.underlying55 (by kernel_rfl) h with ⟨hcs, _⟩ | ⟨a, len, cap, m, n, V, D, Pl, hcs, _, hl, hm, hmm, _, hx⟩
  · simp only [List.cons.injEq, and_true] at hcs
    subst hcs
    exact ⟨none, 0, 0, [], rfl, rfl, Nat.zero_le _, fun i a ha => by simp at ha⟩
  · simp only [List.cons.injEq, and_true] at hcs
    subst hcs
    have hlm : len ≤ m := by rw [hmm]; split <;> omega
    have each : ∀ i, i < len → ∃ r : GoRow, w.cell? (a.add i) = some (.slice r.A r.n r.c) ∧ CameInts .u8 w r.A r.n r.c r.bs := by
      intro i hi
      obtain ⟨h1, h2⟩ := hx i (by omega)
      obtain ⟨A2, n2, c2, x2, q2, r2⟩ := came_ints (k := .u8) (e := 5) (by kernel_rfl) (by kernel_rfl) (by kernel_rfl) h2
      exact ⟨⟨A2, n2, c2, x2⟩, by rw [h1, q2], r2⟩
    have : Inhabited GoRow := ⟨⟨none, 0, 0, []⟩⟩
    obtain ⟨f, hf⟩ := Go.Deep.choose_lt each
    refine ⟨some a, len, cap, (List.range len).map f, rfl, by simp, by unfold maxLen at hm; omega, fun i q hq => ?_⟩
    have hi : i < len := by
      have := (List.getElem?_eq_some_iff.1 hq).1
      simpa using this
    rw [List.getElem?_map, List.getElem?_range hi] at hq
    simp only [Option.map_some, Option.some.injEq] at hq
    subst hq
    obtain ⟨c0, rb⟩ := hf i hi
    have hsp : a.spot = none := by
      have d0 := (hf 0 (by omega)).1
      rw [add_zero] at d0
      exact spot_none d0
    obtain ⟨b, o, sp⟩ := a
    simp only at hsp
    subst hsp
    rw [add_off] at c0
    have mb := rb.2.2.1
    unfold maxLen at mb
    exact ⟨b, o, rfl, World.block_lt_of_cell? w _ c0, c0, rb.1, by have := rb.2.1; omega, rb.bytes, rb.2.2.2.1⟩
end
end Go.Proofs.Ythphaidaknkedaa
namespace Go.Proofs.Ythphaidaknkedaa.blockKeeps
open Go.ChangeShapes Go.WideShapes Go.ChangeAt Go.RowKit
set_option linter.unusedVariables false

theorem own : ownKnob Try.prog.godebug = none := by kernel_rfl
theorem laidOut : laidOutB Try.prog = true := by kernel_rfl

set_option maxRecDepth 100000 in
theorem lifted (os : Os) (started : os.Started) (H : Type) (enc : TypeId × Value → H) :
    ReturnsInHanded {} Try.checked os 4 .any (Rows.blockKeepsSpec.pre6 enc Try.prog Try.f4 Rows.blockKeepsRow.domain false) (Rows.blockKeepsSpec.post enc Try.prog Try.f4 false true false false) := by
  refine returnsInHanded_of_change (C := Try.checked) own started (by kernel_rfl) Try.func4
    (ChangeSpec.witness6 (enc := enc) (C := Try.checked) false ⟨#[], #[.slice none 0 0, .slice none 0 0, .slice none 0 0], []⟩ 8 (by kernel_rfl) (by kernel_rfl) (by kernel_rfl) (by kernel_rfl)) ?_
  intro W base args ds gs before hval0 hW hcnd _
  have hval : ∀ (j : Nat) t v, Try.f4.params[j]? = some t → args[j]? = some v → Value.okWide Try.prog W .any base t v := hval0
  have hW' := hW
  obtain ⟨p, q, hA0, hV, rfl, hfz, hnd⟩ := hW
  have hA : DataW.TrodAll enc Try.prog W 0 (fun _ => true) true Try.f4.params.toList args.toList ds p := hA0
  rw [Try.params4] at hA hval
  obtain ⟨v0, vs0, d0, ds0, p0, q0, hargs0, rfl, rfl, h0, r0⟩ := trodAll_cons hA
  obtain ⟨v1, vs1, d1, ds1, p1, q1, hargs1, rfl, rfl, h1, r1⟩ := trodAll_cons r0
  obtain ⟨v2, vs2, d2, ds2, p2, q2, hargs2, rfl, rfl, h2, r2⟩ := trodAll_cons r1
  obtain ⟨rfl, rfl, rfl⟩ := trodAll_nil r2
  obtain rfl : args = #[v0, v1, v2] := by cases args; simp_all
  obtain ⟨rfl, rfl⟩ := trodVars_none hV
  have k0 := h0
  have k1 := h1
  have k2 := h2
  have lt0 : ∀ x ∈ p0, x.block < W.heap.size := by obtain ⟨m, hm⟩ := k0; exact DataW.trod_lt m _ _ _ hm
  have lt1 : ∀ x ∈ p1, x.block < W.heap.size := by obtain ⟨m, hm⟩ := k1; exact DataW.trod_lt m _ _ _ hm
  have lt2 : ∀ x ∈ p2, x.block < W.heap.size := by obtain ⟨m, hm⟩ := k2; exact DataW.trod_lt m _ _ _ hm
  obtain ⟨A0, n0, c0, hv0⟩ := okWide_slice Try.underlying55 (hval 0 55 v0 rfl rfl)
  obtain ⟨A1, n1, c1, hv1⟩ := okWide_slice Try.underlying22 (hval 1 22 v1 rfl rfl)
  obtain ⟨A2, n2, c2, hv2⟩ := okWide_slice Try.underlying32 (hval 2 32 v2 rfl rfl)
  subst hv0 hv1 hv2
  obtain ⟨A, n, c, l0, hv, hl0, hb0, ha0⟩ : ∃ A n c, ∃ l : List GoRow, Value.slice A0 n0 c0 = .slice A n c ∧ l.length = n ∧ n ≤ 9223372036854775807 ∧ RowsAt W.heap.size W A l := by
    obtain ⟨fuel, hf⟩ := h0
    exact came_rows (by simpa [Value.cells] using hf)
  cases hv
  obtain ⟨A, n, c, l1, hv, hl1, hb1, ha1⟩ : ∃ A n c, ∃ l : List GoAct, Value.slice A1 n1 c1 = .slice A n c ∧ l.length = n ∧ n ≤ 9223372036854775807 ∧ ActsAt W.heap.size W A l := by
    obtain ⟨fuel, hf⟩ := h1
    exact came_acts (by simpa [Value.cells] using hf)
  cases hv
  obtain ⟨A, n, c, ks, hv, hci⟩ : ∃ A n c, ∃ xs : List Int, Value.slice A2 n2 c2 = .slice A n c ∧ CameInts .i64 W A n c xs := by
    obtain ⟨fuel, hf⟩ := h2
    exact came_ints (k := .i64) (e := 3) (by kernel_rfl) (by kernel_rfl) (by kernel_rfl) (by simpa [Value.cells] using hf)
  cases hv
  clear hA0 hval0
  refine (keeps_walk W A0 n0 c0 l0 A1 n1 c1 l1 A2 n2 c2 ks hl0 hb0 ha0 hl1 hb1 ha1 hci.1 hci.2.1 (by have := hci.2.2.1; unfold maxLen at this; omega) hci.ints hci.2.2.2.1).mono fun e W' ⟨he, bel⟩ => ?_
  subst he
  exact ⟨_, rfl, _, _, _, [], _, [], hW', trodAll_mk1 (shut_bool Try.underlying4 _), (trodAll_cons_mk (Below.trod laidOut (by kernel_rfl) (of_decide_eq_true (by kernel_rfl)) k0 bel lt0) (trodAll_cons_mk (Below.trod laidOut (by kernel_rfl) (of_decide_eq_true (by kernel_rfl)) k1 bel lt1) (trodAll_cons_mk (Below.trod laidOut (by kernel_rfl) (of_decide_eq_true (by kernel_rfl)) k2 bel lt2) trodAll_mk0))), rfl, bel.frame _, fun h => by cases h⟩

theorem over : Rows.blockKeepsRow.holds Try.pinned (OpenSpec.ofChange Rows.blockKeepsSpec) :=
  OpenClaim.holds_of_wide 4 Try.f4 rfl rfl rfl rfl rfl rfl rfl ⟨rfl, rfl, rfl, rfl, rfl⟩ rfl rfl rfl rfl rfl (by kernel_rfl) Try.func4 (by kernel_rfl)
    (of_decide_eq_true (by kernel_rfl)) (by unfold Func.isWrapper; first | (rw [if_pos (by decide +kernel)]; kernel_rfl) | (rw [if_neg (by decide +kernel)]; exact ⟨rfl, rfl⟩))
    (fun os started H enc _ => lifted os started H enc)

end Go.Proofs.Ythphaidaknkedaa.blockKeeps
namespace Go.Proofs.Ythphaidaknkedaa
theorem BlockKeeps_holds : Rows.BlockKeepsSaid := blockKeeps.over
end Go.Proofs.Ythphaidaknkedaa
