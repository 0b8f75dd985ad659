/-
  Opening what comes in, part by part: structs, arrays, numbers, texts; plain theorems on readings. No condition.
-/
import Derived.Test.YtmdiajmjmkmnoaaGreatDoorBMem
import Derived.ProofKit
import Derived.Deep.Slices
import Derived.Lib.LaidTab
set_option linter.unusedSimpArgs false
set_option linter.unusedVariables false
set_option maxRecDepth 100000
namespace Go.Proofs.YtmdiajmjmkmnoaaGreatDoor
open Go.ChangeShapes Go.WideShapes Go.ChangeAt Go.RowKit

/-- A field's type and where it begins. -/
def fieldTO (P : Program) (T : TypeId) (i : Nat) : Option (TypeId × Nat) := match P.underlying T with
  | some (.struct f) => (f[i]?).map fun f => (f.type, f.offset)
  | _ => none
theorem piece1 {cs : List Value} {o : Nat} {x : Value} (h : (cs.drop o).take 1 = [x]) : cs[o]? = some x := by
  have h1 : ((cs.drop o).take 1)[0]? = some x := by rw [h]; rfl
  rw [List.getElem?_take, if_pos (by omega), List.getElem?_drop, Nat.add_zero] at h1
  exact h1
theorem piece2 {cs : List Value} {o n p : Nat} {x : Value} (h : (((cs.drop o).take n).drop p).take 1 = [x]) : cs[o + p]? = some x := by
  have h1 := piece1 h
  rw [List.getElem?_take] at h1
  split at h1
  · rw [List.getElem?_drop] at h1
    exact h1
  · cases h1
section
variable {H : Type} {enc : TypeId × Value → H} {P : Program} {w : World} {base : Nat} {spare : Nat → Bool} {held : Bool} {fuel : Nat} {T : TypeId} {cs : List Value} {x : DataW H × List MemPlace}
theorem struct_open {i t o : Nat} (hi : fieldTO P T i = some (t, o)) (h : DataW.trod enc P w base spare held fuel T cs = some x) :
    ∃ n y, DataW.trod enc P w base spare held n t ((cs.drop o).take (P.cellsOf t)) = some y ∧ ∀ ds, x.1 = .agg ds → ds[i]? = some y.1 := by
  unfold fieldTO at hi
  cases hu : P.underlying T with
  | none => rw [hu] at hi; cases hi
  | some d =>
    rw [hu] at hi
    cases d with
    | struct fs =>
      simp only at hi
      obtain ⟨f, hf1, hf2⟩ := Option.map_eq_some_iff.1 hi
      obtain ⟨xs, n, _, e1, _, hxl, hf⟩ := DataW.trod_struct hu h
      have k := hf i f hf1
      have h3 := (Array.getElem?_eq_some_iff.1 hf1).1
      simp only [Prod.mk.injEq] at hf2
      rw [hf2.1, hf2.2] at k
      have hx : i < xs.length := by omega
      rw [List.getElem?_eq_getElem hx] at k
      refine ⟨n, _, k, fun ds he => ?_⟩
      rw [e1] at he
      injection he with he
      rw [← he, List.getElem?_map, List.getElem?_eq_getElem hx]
      rfl
    | _ => cases hi
theorem arr_open {e n : Nat} (ht : P.underlying T = some (.array n e)) (h : DataW.trod enc P w base spare held fuel T cs = some x) :
    cs.length = P.cellsOf T ∧ ∃ f, ∀ i, i < n → ∃ y, DataW.trod enc P w base spare held f e ((cs.drop (i * P.cellsOf e)).take (P.cellsOf e)) = some y ∧ ∀ ds, x.1 = .agg ds → ds[i]? = some y.1 := by
  cases fuel with
  | zero => simp [DataW.trod] at h
  | succ f =>
    simp only [DataW.trod, ht] at h
    split at h
    · rename_i hl
      obtain ⟨xs, hm, hx⟩ := Option.map_eq_some_iff.1 h
      refine ⟨hl, f, fun i hi => ?_⟩
      obtain ⟨b, hb, hf⟩ := Lib.mapM_at hm i i (by simp [hi])
      refine ⟨b, hf, fun ds he => ?_⟩
      rw [← hx] at he
      injection he with he
      rw [← he, List.getElem?_map, hb]
      rfl
    · cases h
theorem lit_int {k : IntKind} {z : Int} (ht : P.underlying T = some (.int k)) (h : DataW.trod enc P w base spare held fuel T cs = some x) (hx : x.1 = .lit (.int k z)) : cs = [.int k z] := by
  obtain ⟨n, e, e2, _⟩ := DataW.trod_int ht h
  rw [e2] at hx
  simp only [DataW.lit.injEq, Lit.int.injEq, true_and] at hx
  rw [e, hx]
end
def isStructT (P : Program) (T : TypeId) : Bool := match P.underlying T with
  | some (.struct _) => true
  | _ => false
theorem okWide_st {P : Program} {w : World} {r : Reach} {b : Nat} {T : TypeId} {v : Value} (h : isStructT P T = true) (hv : Value.okWide P w r b T v) : ∃ cs : Array Value, v = .agg cs ∧ cs.size = P.cellsOf T := by
  unfold isStructT at h
  cases hu : P.underlying T with
  | none => rw [hu] at h; cases h
  | some d =>
    rw [hu] at h
    cases d with
    | struct fs => exact okWide_struct hu hv
    | _ => cases h
end Go.Proofs.YtmdiajmjmkmnoaaGreatDoor
