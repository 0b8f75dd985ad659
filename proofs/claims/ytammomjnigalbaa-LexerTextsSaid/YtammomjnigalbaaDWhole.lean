/-
  Whole arrays and structs out of and into a block that is known whole. Plain theorems; conditions: the block is known.
-/
import Derived.Test.YtammomjnigalbaaProg
import Derived.Test.YtammomjnigalbaaDSched
import Derived.Deep.MidRow
import Derived.Lib.Hide
set_option maxRecDepth 100000
set_option linter.unusedSimpArgs false
set_option linter.unusedVariables false
namespace Go.Proofs.Ytammomjnigalbaa
open Go.RowKit

section
variable {w : World} {g : Nat} {t : TypeId} {cs : List Value}
theorem Blk.rangeAt (h : Blk w g t cs) (o n : Nat) : w.rangeAt g o ((cs.drop o).take n) := by
  intro j v hv
  rw [h.cell]
  rw [List.getElem?_take] at hv
  split at hv
  · rw [List.getElem?_drop] at hv
    exact hv
  · cases hv
theorem Blk.range (h : Blk w g t cs) : w.rangeAt g 0 cs := by
  intro j v hv
  rw [h.cell, Nat.zero_add]
  exact hv
theorem Blk.there (h : Blk w g t cs) {o n : Nat} (hn : o + n ≤ cs.length) : w.there g o n := by
  intro j hj
  refine ⟨?_, h.frozen _⟩
  rw [h.cell, List.getElem?_eq_getElem (by omega)]
  rfl
/-- vs over the cells from o on. -/
def over (cs : List Value) (o : Nat) (vs : List Value) : List Value := cs.take o ++ vs ++ cs.drop (o + vs.length)
theorem over_length {o : Nat} {vs : List Value} (h : o + vs.length ≤ cs.length) : (over cs o vs).length = cs.length := by
  simp [over]; omega
theorem over_cons {o : Nat} {v : Value} {vs : List Value} (h : o < cs.length) : over (cs.set o v) (o + 1) vs = over cs o (v :: vs) := by
  unfold over
  have e1 : (cs.set o v).take (o + 1) = cs.take o ++ [v] := by
    apply List.ext_getElem?
    intro i
    rw [List.getElem?_take]
    by_cases hi : i < o
    · rw [if_pos (by omega), List.getElem?_set_ne (by omega), List.getElem?_append_left (by simp; omega), List.getElem?_take, if_pos hi]
    · by_cases he : i = o
      · subst he
        rw [if_pos (by omega), List.getElem?_set_self h, List.getElem?_append_right (by simp; omega)]
        simp [Nat.min_eq_left (Nat.le_of_lt h)]
      · rw [if_neg (by omega), List.getElem?_eq_none (by simp; omega)]
  have e2 : (cs.set o v).drop (o + 1 + vs.length) = cs.drop (o + (v :: vs).length) := by
    rw [List.drop_set_of_lt (by omega), List.length_cons]
    congr 1
    omega
  rw [e1, e2]
  simp
theorem Blk.setCells : ∀ (vs : List Value) {w : World} {cs : List Value} (o : Nat), Blk w g t cs → o + vs.length ≤ cs.length → Blk (w.setCells g o vs) g t (over cs o vs)
  | [], w, cs, o, h, _ => by
    have : over cs o [] = cs := by simp [over]
    rw [this]; exact h
  | v :: vs, w, cs, o, h, hl => by
    rw [List.length_cons] at hl
    have := Blk.setCells vs (o + 1) (h.set_ o v) (by rw [List.length_set]; omega)
    rw [over_cons (by omega)] at this
    exact this
theorem Only.setCells {S : List Nat} {a : World} : ∀ (vs : List Value) {w : World} (g o : Nat), Only S a w → (g ∈ S ∨ a.heap.size ≤ g) → Only S a (w.setCells g o vs)
  | [], _, _, _, h, _ => h
  | v :: vs, _, g, o, h, hg => Only.setCells vs g (o + 1) (h.setCell (p := ⟨g, o, none⟩) hg v) hg
end

/-- A whole value stored into a block that is known: the world behind it under a name of its own. -/
theorem wpList_store_blk {P : Program} {ops : Array Oper} {rest : List Oper} {op : Oper} {a : Act} {w : World} {Q : Exit → Act → World → Prop} (hgd : op.guard = none) (ty : TypeId) (x y : Operand) (ho : op.op = .store ty x y)
    (b o : Nat) (vs : List Value) (hx : a.eval x = .pointer (some ⟨b, o, none⟩)) (hy : a.eval y = .agg vs.toArray) {t : TypeId} {cs : List Value}
    (hb : Blk w b t cs) (hn : o + vs.length ≤ cs.length) (hi : (P.info? ty).map (·.size) = some vs.length) (h1 : ∀ u ∈ vs, u.oneCell' = true)
    (h : ∀ w', Blk w' b t (over cs o vs) → Only [b] w w' → wpList P ops Q rest (a.put op.dst undef) w') : wpList P ops Q (op :: rest) a w := by
  refine wpList_store_mid hgd ty x y ho b o vs.toArray hx hy (hb.there (by simpa using hn)) (by simpa using hi) (all_oneCell_toArray h1) ?_
  exact h _ (hb.setCells vs o hn) (Only.setCells vs b o (Only.refl _ _) (.inl (by simp)))
/-- One number stored into a block that is known: the world behind it under a name of its own. -/
theorem wpList_store_one {P : Program} {ops : Array Oper} {rest : List Oper} {op : Oper} {a : Act} {w : World} {Q : Exit → Act → World → Prop} (hgd : op.guard = none) (ty : TypeId) (x y : Operand) (ho : op.op = .store ty x y)
    (b o : Nat) (k : IntKind) (n : Int) (hx : a.eval x = .pointer (some ⟨b, o, none⟩)) (hy : a.eval y = .int k n) {t : TypeId} {cs : List Value}
    (hb : Blk w b t cs) (hn : o < cs.length) (hi : (P.info? ty).map (·.size) = some 1)
    (h : ∀ w', Blk w' b t (cs.set o (.int k n)) → Only [b] w w' → wpList P ops Q rest (a.put op.dst undef) w') : wpList P ops Q (op :: rest) a w := by
  have ht := hb.there (o := o) (n := 1) (by omega)
  have hst := run_storeCells_cells (P := P) b o [.int k n] 0 w (fun j hj => by simpa using (ht j (by simpa using hj)).1) (fun j hj => by simpa using (ht j (by simpa using hj)).2)
    (fun v hv => by simp at hv; subst hv; rfl)
  have hs : (storeVar ty ⟨b, o, none⟩ (.int k n)).run P w = .ok () (w.setCell ⟨b, o, none⟩ (.int k n)) := by
    cases hq : P.info? ty with
    | none => simp [hq] at hi
    | some i =>
      have hs : i.size = 1 := by simpa [hq] using hi
      simp only [Nat.add_zero] at hst
      simp [storeVar, sizeOf, typeInfo, hq, Value.cells, hs, hst, World.setCells]
  refine wpList_plain hgd fun K hK => ?_
  unfold Oper.wp execOp
  simp only [ho, hx, hy, Instr.storeAt, Instr.sureAddr, Sem.run_bind, Sem.run_pure, Result.andThen_ok, hs]
  exact hK _ _ (h _ (hb.set_ o _) ((Only.refl _ _).setCell (p := ⟨b, o, none⟩) (.inl (by simp)) _))
theorem over_whole {cs vs : List Value} (h : vs.length = cs.length) : over cs 0 vs = vs := by
  unfold over
  rw [List.drop_eq_nil_of_le (by omega)]
  simp

/-- A result that lies in a cell of the call's own. -/
theorem ret_cell {P : Program} {fn : Func} {p : Tmp} {ty : TypeId} (h : fn.results = #[.cell p ty]) {tmps : Array Value} {w : World} {a : Addr} {v : Value} (ht : tmps.getD p undef = .pointer (some a)) (hl : (loadVar ty a).run P w = .ok v w) :
    (results fn tmps).run P w = .ok v w := by
  have ht' : tmps[p]?.getD undef = .pointer (some a) := by simpa using ht
  simp only [results, h]
  simp [ht', asAddr, hl]

theorem info5 : (Try.prog.info? 5).map (·.size) = some 1 := by kernel_rfl
end Go.Proofs.Ytammomjnigalbaa
