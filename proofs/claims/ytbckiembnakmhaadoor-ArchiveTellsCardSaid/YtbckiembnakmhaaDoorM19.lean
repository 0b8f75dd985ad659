/-
  What ArchiveTells' walk takes besides. Plain theorems; no condition.
-/
import Derived.Test.YtbckiembnakmhaaDoorM17
import Derived.Test.YtbckiembnakmhaaDoorM13
import Derived.Test.YtbckiembnakmhaaDoorM18
import Derived.Test.YtbckiembnakmhaaDoorM14
import Derived.Test.YtbckiembnakmhaaDoorM6
section
set_option linter.unusedSimpArgs false
set_option linter.unusedVariables false
set_option maxRecDepth 100000
namespace Go.Proofs.YtbckiembnakmhaaDoor
open Go.RowKit

section
variable {P : Program} {ρ : Operand → Value} {o : Oper} {w : World}
/-- 'x[i:i+1]'. -/
theorem x_sub_one {t : TypeId} {x k l : Operand} {g q n c i size : Nat} (ho : o.op = .slice t x (some k) (some l) none) (ht : subT P t = true) (hs : (P.info? (P.elem t)).map (·.size) = some size) (hx : ρ x = .slice (some ⟨g, q, none⟩) n c) (hk : ρ k = .int .i64 (i : Int)) (hl : ρ l = .int .i64 ((i : Int) + 1)) (h1 : i + 1 ≤ c) : (execOp ρ o).run P w = .ok (.value (.slice (some ⟨g, q + i * size, none⟩) 1 (c - i))) w := by
  unfold subT at ht
  split at ht
  · rename_i e hu
    rw [Bool.and_eq_true, beq_iff_eq] at ht
    obtain ⟨he, hi⟩ := ht
    subst he
    obtain ⟨inf, hq⟩ : ∃ inf, P.info? (P.elem t) = some inf := by
      cases hq : P.info? (P.elem t) with
      | none => rw [hq] at hs; cases hs
      | some i => exact ⟨i, rfl⟩
    have hsz : inf.size = size := by simpa [hq] using hs
    unfold execOp
    rw [ho]
    simp only [hx, hk, hl, Option.map_some, Option.map_none]
    have hs := run_sliceAt_slice (P := P) w t (.slice (some ⟨g, q, none⟩) n c) (some (.int .i64 (i : Int))) (some (.int .i64 ((i : Int) + 1))) none hu
    have hh := run_slice_lh (P := P) w t (some ⟨g, q, none⟩) n c hu .i64 .i64 (i : Int) ((i : Int) + 1) (by omega) (by omega) (by omega)
    have e1 : ((i : Int) + 1).toNat = i + 1 := by omega
    have e2 : ¬ c = i := by omega
    simp only [Sem.run_bind, hs, hh]
    simp [sizeOf, typeInfo, run_program, hq, sliced, Result.andThen, hsz, e1, e2, addr_add]
  · cases ht
end
theorem ein_at {w : World} {g o n c i : Nat} {xs : List Ev} {es : List En} {x : Ev} {e : En} (h : EIn w (some ⟨g, o, none⟩) n c xs es) (hi : i < n) (hx : xs[i]? = some x) (he : es[i]? = some e) : EIn w (some ⟨g, o + i * 4, none⟩) 1 (c - i) [x] [e] := by
  obtain ⟨g', o', hA, hg, hc⟩ := h.cells (by omega)
  cases hA
  refine ⟨rfl, rfl, by have := h.cap; omega, by have := h.big; omega, (fun ha => by cases ha), fun _ => ⟨g, o + i * 4, rfl, hg, fun j y hy => ?_⟩, fun j y f hy hf => ?_⟩
  · cases j with
    | zero =>
      simp only [List.getElem?_cons_zero, Option.some.injEq] at hy
      subst hy
      rw [Nat.zero_mul, Nat.add_zero]
      exact hc i x hx
    | succ j => simp at hy
  · cases j with
    | zero =>
      simp only [List.getElem?_cons_zero, Option.some.injEq] at hy hf
      subst hy hf
      exact h.ok i x e hx he
    | succ j => simp at hy
/-- A row of one entry in a block. -/
theorem ein_blk {w : World} {p t : Nat} {x : Ev} {e : En} (hk : Blk w p t (evC x)) (h : EvOk w x e) : EIn w (some ⟨p, 0, none⟩) 1 1 [x] [e] := by
  refine ⟨rfl, rfl, Nat.le_refl _, by omega, (fun ha => by cases ha), fun _ => ⟨p, 0, rfl, hk.lt, fun j y hy => ?_⟩, fun j y f hy hf => ?_⟩
  · cases j with
    | zero =>
      simp only [List.getElem?_cons_zero, Option.some.injEq] at hy
      subst hy
      exact blk_range hk
    | succ j => simp at hy
  · cases j with
    | zero =>
      simp only [List.getElem?_cons_zero, Option.some.injEq] at hy hf
      subst hy hf
      exact h
    | succ j => simp at hy
def oneNV (N : Nat) (y : Ev) (e : En) : Value → World → Prop := fun u w => ∃ B d, u = .slice B 1 d ∧ EIn w B 1 d [y] [e]
theorem oneNV.st (N : Nat) (y : Ev) (e : En) : StV (oneNV N y e) := fun _ _ _ ⟨B, d, h1, h2⟩ hb => ⟨B, d, h1, h2.below hb⟩
theorem r_neq32 {x k : Operand} (d : List B8) (hd : d.length = 32) (w : World) : (do eqGuard .neq 40 x k (.agg (Vb d).toArray) (.agg (Vb d).toArray); binOp .neq 40 (.agg (Vb d).toArray) (.agg (Vb d).toArray) : Sem Value).run Tryd.prog w = .ok (.bool false) w := by
  have hg : Tryd.prog.eqGuardType Tryd.prog.depth 40 = false := by kernel_rfl
  have he := eql32 d d hd hd w
  rw [decide_eq_true rfl] at he
  simp [eqGuard, binOp, hg, run_program, Op.equal, he, Op.maxDepth]
/-- The digests' cells at one entry. -/
theorem rowD_get (ks : List B32) : ∀ (es : List En) (i : Nat) (e : En), es[i]? = some e → ∀ (j : Nat) (v : Value), (Vb (sha ks e.data))[j]? = some v → (rowD ks es)[i * 32 + j]? = some v
  | [], i, e, h, _, _, _ => by simp at h
  | a :: es, 0, e, h, j, v, hv => by
    simp only [List.getElem?_cons_zero, Option.some.injEq] at h
    subst h
    have := (List.getElem?_eq_some_iff.1 hv).1
    unfold rowD
    rw [List.flatMap_cons, Nat.zero_mul, Nat.zero_add, List.getElem?_append_left this]
    exact hv
  | a :: es, i + 1, e, h, j, v, hv => by
    have h1 := rowD_get ks es i e (by simpa using h) j v hv
    have h32 : (Vb (sha ks a.data)).length = 32 := by rw [Vb_length, sha_length]
    unfold rowD at h1 ⊢
    rw [List.flatMap_cons, List.getElem?_append_right (by rw [h32]; omega), h32, show (i + 1) * 32 + j - 32 = i * 32 + j by omega]
    exact h1
theorem digs_cells {ks : List B32} {w : World} {N n : Nat} {v : Value} {es : List En} (h : w.ownsRow N 40 32 v n (rowD ks es)) (h0 : 0 < n) : ∃ g c, v = .slice (some ⟨g, 0, none⟩) n c ∧ ∀ (i : Nat) (e : En), es[i]? = some e → w.rangeAt g (i * 32) (Vb (sha ks e.data)) := by
  rcases h.2 with ⟨rfl, h1⟩ | ⟨g, cap, cur, rfl, hg, hb, h1, h2, h3, h4⟩
  · omega
  · refine ⟨g, _, rfl, fun i e he j u hu => ?_⟩
    have hk : Blk w g 40 cur.toList := by simpa [Blk] using hb
    rw [hk.cell]
    have := rowD_get ks es i e he j u hu
    rw [← h4, List.getElem?_take] at this
    split at this
    · exact this
    · cases this
end Go.Proofs.YtbckiembnakmhaaDoor
end
