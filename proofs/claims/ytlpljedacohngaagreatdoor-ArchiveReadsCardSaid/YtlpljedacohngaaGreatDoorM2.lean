/-
  Whole arrays and structs out of and into a block that is known whole. Plain theorems; conditions: the block is known.
-/
import Derived.Test.YtlpljedacohngaaGreatDoorProg
import Derived.Test.YtlpljedacohngaaGreatDoorM1
import Derived.Deep.MidRow
import Derived.Lib.Hide
import Derived.Deep.RegionHeld3
import Derived.OrdersIn
import Derived.RangeFuncOwn
import Derived.RangeFuncCalls
section
set_option maxRecDepth 100000
set_option linter.unusedSimpArgs false
set_option linter.unusedVariables false
namespace Go.Proofs.YtlpljedacohngaaGreatDoor
open Go.RowKit

section
variable {w : World} {g : Nat} {t : TypeId} {cs : List Value}
theorem Blk.rangeAt (h : Blk w g t cs) (o n : Nat) : w.rangeAt g o ((cs.drop o).take n) := by
  intro j v hv
  rw [h.cell]
  rw [List.getElem?_take] at hv
  split at hv
  · rw [List.getElem?_drop] at hv
    exact hv
  · cases hv
theorem Blk.range (h : Blk w g t cs) : w.rangeAt g 0 cs := by
  intro j v hv
  rw [h.cell, Nat.zero_add]
  exact hv
theorem Blk.there (h : Blk w g t cs) {o n : Nat} (hn : o + n ≤ cs.length) : w.there g o n := by
  intro j hj
  refine ⟨?_, h.frozen _⟩
  rw [h.cell, List.getElem?_eq_getElem (by omega)]
  rfl
/-- vs over the cells from o on. -/
def over (cs : List Value) (o : Nat) (vs : List Value) : List Value := cs.take o ++ vs ++ cs.drop (o + vs.length)
theorem over_length {o : Nat} {vs : List Value} (h : o + vs.length ≤ cs.length) : (over cs o vs).length = cs.length := by
  simp [over]; omega
theorem over_cons {o : Nat} {v : Value} {vs : List Value} (h : o < cs.length) : over (cs.set o v) (o + 1) vs = over cs o (v :: vs) := by
  unfold over
  have e1 : (cs.set o v).take (o + 1) = cs.take o ++ [v] := by
    apply List.ext_getElem?
    intro i
    rw [List.getElem?_take]
    by_cases hi : i < o
    · rw [if_pos (by omega), List.getElem?_set_ne (by omega), List.getElem?_append_left (by simp; omega), List.getElem?_take, if_pos hi]
    · by_cases he : i = o
      · subst he
        rw [if_pos (by omega), List.getElem?_set_self h, List.getElem?_append_right (by simp; omega)]
        simp [Nat.min_eq_left (Nat.le_of_lt h)]
      · rw [if_neg (by omega), List.getElem?_eq_none (by simp; omega)]
  have e2 : (cs.set o v).drop (o + 1 + vs.length) = cs.drop (o + (v :: vs).length) := by
    rw [List.drop_set_of_lt (by omega), List.length_cons]
    congr 1
    omega
  rw [e1, e2]
  simp
theorem Blk.setCells : ∀ (vs : List Value) {w : World} {cs : List Value} (o : Nat), Blk w g t cs → o + vs.length ≤ cs.length → Blk (w.setCells g o vs) g t (over cs o vs)
  | [], w, cs, o, h, _ => by
    have : over cs o [] = cs := by simp [over]
    rw [this]; exact h
  | v :: vs, w, cs, o, h, hl => by
    rw [List.length_cons] at hl
    have := Blk.setCells vs (o + 1) (h.set_ o v) (by rw [List.length_set]; omega)
    rw [over_cons (by omega)] at this
    exact this
theorem Only.setCells {S : List Nat} {a : World} : ∀ (vs : List Value) {w : World} (g o : Nat), Only S a w → (g ∈ S ∨ a.heap.size ≤ g) → Only S a (w.setCells g o vs)
  | [], _, _, _, h, _ => h
  | v :: vs, _, g, o, h, hg => Only.setCells vs g (o + 1) (h.setCell (p := ⟨g, o, none⟩) hg v) hg
end

/-- A whole value stored into a block that is known: the world behind it under a name of its own. -/
theorem wpList_store_blk {P : Program} {ops : Array Oper} {rest : List Oper} {op : Oper} {a : Act} {w : World} {Q : Exit → Act → World → Prop} (hgd : op.guard = none) (ty : TypeId) (x y : Operand) (ho : op.op = .store ty x y)
    (b o : Nat) (vs : List Value) (hx : a.eval x = .pointer (some ⟨b, o, none⟩)) (hy : a.eval y = .agg vs.toArray) {t : TypeId} {cs : List Value}
    (hb : Blk w b t cs) (hn : o + vs.length ≤ cs.length) (hi : (P.info? ty).map (·.size) = some vs.length) (h1 : ∀ u ∈ vs, u.oneCell' = true)
    (h : ∀ w', Blk w' b t (over cs o vs) → Only [b] w w' → wpList P ops Q rest (a.put op.dst undef) w') : wpList P ops Q (op :: rest) a w := by
  refine wpList_store_mid hgd ty x y ho b o vs.toArray hx hy (hb.there (by simpa using hn)) (by simpa using hi) (all_oneCell_toArray h1) ?_
  exact h _ (hb.setCells vs o hn) (Only.setCells vs b o (Only.refl _ _) (.inl (by simp)))
/-- One number stored into a block that is known: the world behind it under a name of its own. -/
theorem wpList_store_one {P : Program} {ops : Array Oper} {rest : List Oper} {op : Oper} {a : Act} {w : World} {Q : Exit → Act → World → Prop} (hgd : op.guard = none) (ty : TypeId) (x y : Operand) (ho : op.op = .store ty x y)
    (b o : Nat) (k : IntKind) (n : Int) (hx : a.eval x = .pointer (some ⟨b, o, none⟩)) (hy : a.eval y = .int k n) {t : TypeId} {cs : List Value}
    (hb : Blk w b t cs) (hn : o < cs.length) (hi : (P.info? ty).map (·.size) = some 1)
    (h : ∀ w', Blk w' b t (cs.set o (.int k n)) → Only [b] w w' → wpList P ops Q rest (a.put op.dst undef) w') : wpList P ops Q (op :: rest) a w := by
  have ht := hb.there (o := o) (n := 1) (by omega)
  have hst := run_storeCells_cells (P := P) b o [.int k n] 0 w (fun j hj => by simpa using (ht j (by simpa using hj)).1) (fun j hj => by simpa using (ht j (by simpa using hj)).2)
    (fun v hv => by simp at hv; subst hv; rfl)
  have hs : (storeVar ty ⟨b, o, none⟩ (.int k n)).run P w = .ok () (w.setCell ⟨b, o, none⟩ (.int k n)) := by
    cases hq : P.info? ty with
    | none => simp [hq] at hi
    | some i =>
      have hs : i.size = 1 := by simpa [hq] using hi
      simp only [Nat.add_zero] at hst
      simp [storeVar, sizeOf, typeInfo, hq, Value.cells, hs, hst, World.setCells]
  refine wpList_plain hgd fun K hK => ?_
  unfold Oper.wp execOp
  simp only [ho, hx, hy, Instr.storeAt, Instr.sureAddr, Sem.run_bind, Sem.run_pure, Result.andThen_ok, hs]
  exact hK _ _ (h _ (hb.set_ o _) ((Only.refl _ _).setCell (p := ⟨b, o, none⟩) (.inl (by simp)) _))
theorem over_whole {cs vs : List Value} (h : vs.length = cs.length) : over cs 0 vs = vs := by
  unfold over
  rw [List.drop_eq_nil_of_le (by omega)]
  simp

/-- A result that lies in a cell of the call's own. -/
theorem ret_cell {P : Program} {fn : Func} {p : Tmp} {ty : TypeId} (h : fn.results = #[.cell p ty]) {tmps : Array Value} {w : World} {a : Addr} {v : Value} (ht : tmps.getD p undef = .pointer (some a)) (hl : (loadVar ty a).run P w = .ok v w) :
    (results fn tmps).run P w = .ok v w := by
  have ht' : tmps[p]?.getD undef = .pointer (some a) := by simpa using ht
  simp only [results, h]
  simp [ht', asAddr, hl]

theorem info5 : (Tryz.prog.info? 5).map (·.size) = some 1 := by kernel_rfl
theorem info74 : (Tryz.prog.info? 148).map (·.size) = some 64 := by kernel_rfl
theorem info31 : (Tryz.prog.info? 74).map (·.size) = some 32 := by kernel_rfl
theorem info44 : (Tryz.prog.info? 120).map (·.size) = some 73 := by kernel_rfl
theorem info41 : (Tryz.prog.info? 117).map (·.size) = some 8 := by kernel_rfl

end Go.Proofs.YtlpljedacohngaaGreatDoor
end

/-
  A region that draws its order, by what each operation leaves: whatever the order, behind each operation its own word holds, and the words of those that came ahead still do. Conditions: those of the theorem.
-/

section
set_option maxRecDepth 100000
set_option linter.unusedSimpArgs false
set_option linter.unusedVariables false
namespace Go.Proofs.YtlpljedacohngaaGreatDoor

/-- The slots of a region's operations, filled with v. -/
def fillR : List (Option Tmp) → (Nat → Value) → Nat → Act → Act
  | [], _, _, a => a
  | d :: ds, v, k, a => fillR ds v (k + 1) (a.put d (v k))
def setV (v : Nat → Value) (i : Nat) (x : Value) : Nat → Value := fun j => if j = i then x else v j
/-- No two operations write one slot. -/
def apartR : List (Option Tmp) → Bool
  | [] => true
  | none :: ds => apartR ds
  | some d :: ds => !(ds.contains (some d)) && apartR ds
/-- Each operation waits for earlier ones alone. -/
def lexR (ops : Array Oper) : Bool := (List.range ops.size).all fun i => match ops[i]? with | some o => o.after.all fun e => decide (e.on < i) | none => true

theorem put_put (a : Act) (d : Option Tmp) (x y : Value) : (a.put d x).put d y = a.put d y := by
  cases d with
  | none => rfl
  | some d => simp [Act.put]
theorem put_own (a : Act) (d : Tmp) : a.put (some d) (a.tmps.getD d undef) = a := by
  obtain ⟨t, ds⟩ := a
  simp only [Act.put]
  congr 1
  apply Array.ext
  · simp
  · intro i h1 h2
    by_cases h : d = i
    · subst h
      have : d < t.size := h2
      simp [this]
    · rw [Array.getElem_setIfInBounds_ne (by assumption) h]
theorem put_through : ∀ (ds : List (Option Tmp)) (v : Nat → Value) (k : Nat) (a : Act) (d : Option Tmp) (x : Value), (∀ t, d = some t → some t ∉ ds) → (fillR ds v k a).put d x = fillR ds v k (a.put d x)
  | [], _, _, _, _, _, _ => rfl
  | d' :: ds, v, k, a, d, x, h => by
    unfold fillR
    rw [put_through ds v (k + 1) (a.put d' (v k)) d x (fun t ht hm => h t ht (List.mem_cons_of_mem _ hm))]
    rw [Act.put_comm a (v k) x (fun t ht hd => h t hd (by rw [ht]; exact List.mem_cons_self))]
theorem fill_past : ∀ (ds : List (Option Tmp)) (v v' : Nat → Value) (k : Nat) (a : Act), (∀ j, k ≤ j → v j = v' j) → fillR ds v k a = fillR ds v' k a
  | [], _, _, _, _, _ => rfl
  | d :: ds, v, v', k, a, h => by
    unfold fillR
    rw [h k (Nat.le_refl _)]
    exact fill_past ds v v' (k + 1) _ (fun j hj => h j (by omega))
theorem put_fill : ∀ (ds : List (Option Tmp)), apartR ds = true → ∀ (v : Nat → Value) (k : Nat) (a : Act) (i : Nat) (d : Option Tmp) (x : Value), ds[i]? = some d → (fillR ds v k a).put d x = fillR ds (setV v (k + i) x) k a
  | [], _, _, _, _, _, _, _, h => by simp at h
  | d' :: ds, hn, v, k, a, 0, d, x, h => by
    simp only [List.getElem?_cons_zero, Option.some.injEq] at h
    subst h
    unfold fillR
    rw [put_through ds v (k + 1) _ d' x (fun t ht hm => by
      subst ht
      simp only [apartR, Bool.and_eq_true, Bool.not_eq_true', List.contains_eq_mem, decide_eq_false_iff_not] at hn
      exact hn.1 hm), put_put]
    have e : setV v (k + 0) x k = x := by simp [setV]
    rw [e]
    exact fill_past ds v _ (k + 1) _ (fun j hj => by simp [setV]; omega)
  | d' :: ds, hn, v, k, a, i + 1, d, x, h => by
    simp only [List.getElem?_cons_succ] at h
    have hn' : apartR ds = true := by
      cases d' with
      | none => exact hn
      | some t => simp only [apartR, Bool.and_eq_true] at hn; exact hn.2
    unfold fillR
    rw [put_fill ds hn' v (k + 1) (a.put d' (v k)) i d x h]
    have e : setV v (k + (i + 1)) x k = v k := by simp [setV]
    rw [e, show k + 1 + i = k + (i + 1) by omega]
theorem fill_start (a : Act) : ∀ (ds : List (Option Tmp)) (k : Nat) (v : Nat → Value), (∀ i t, ds[i]? = some (some t) → v (k + i) = a.tmps.getD t undef) → fillR ds v k a = a
  | [], _, _, _ => rfl
  | none :: ds, k, v, h => by
    unfold fillR
    exact fill_start a ds (k + 1) v (fun i t ht => by rw [show k + 1 + i = k + (i + 1) by omega]; exact h (i + 1) t (by simpa using ht))
  | some t :: ds, k, v, h => by
    unfold fillR
    rw [show v k = a.tmps.getD t undef from h 0 t (by simp), put_own]
    exact fill_start a ds (k + 1) v (fun i t ht => by rw [show k + 1 + i = k + (i + 1) by omega]; exact h (i + 1) t (by simpa using ht))

/-- How many operations are still to come up. -/
def leftR (listed : Array Bool) : Nat := listed.toList.countP (fun b => !b)
theorem count_set : ∀ (l : List Bool) (i : Nat), l[i]? = some false → (l.set i true).countP (fun b => !b) + 1 = l.countP (fun b => !b)
  | [], _, h => by simp at h
  | b :: l, 0, h => by
    simp only [List.getElem?_cons_zero, Option.some.injEq] at h
    subst h
    simp [List.countP_cons]
  | b :: l, i + 1, h => by
    simp only [List.getElem?_cons_succ] at h
    have := count_set l i h
    simp only [List.set_cons_succ, List.countP_cons]
    omega
theorem leftR_set {listed : Array Bool} {i : Nat} (h : listed.getD i true = false) : leftR (listed.setIfInBounds i true) + 1 = leftR listed := by
  have hi : i < listed.size := by
    rcases Nat.lt_or_ge i listed.size with h' | h'
    · exact h'
    · simp [Array.getElem?_eq_none h'] at h
  have hf : listed.toList[i]? = some false := by simpa [hi] using h
  unfold leftR
  rw [Array.toList_setIfInBounds]
  exact count_set _ _ hf

section
variable {P : Program} {ops : Array Oper} {Q : Exit → Act → World → Prop} {md : Region.Mode}

theorem all_listed (hl : lexR ops = true) {listed : Array Bool} (hs : listed.size = ops.size) (hr : Region.ready md ops listed = []) : ∀ i, i < ops.size → listed.getD i false = true := by
  intro i
  induction i using Nat.strongRecOn with
  | ind i ih =>
    intro hi
    cases hb : listed.getD i false with
    | true => rfl
    | false =>
      exfalso
      have hm : i ∈ Region.ready md ops listed := by
        rw [mem_ready]
        refine ⟨by simpa [hs, hi] using hb, ops[i], by simp [hi], fun e he _ => ?_⟩
        have := List.all_eq_true.1 hl i (List.mem_range.2 hi)
        rw [Array.getElem?_eq_getElem hi] at this
        simp only [Array.all_eq_true_iff_forall_mem, decide_eq_true_eq] at this
        have hlt := this e he
        exact ih e.on hlt (by omega)
      rw [hr] at hm
      cases hm

/-- The rule. V i x w: what operation i's value x is good for in w; it is kept by Rel. R: what holds of the world all along. -/
theorem wpAny_inv (ds : List (Option Tmp)) (hds : ops.toList.map (·.dst) = ds) (hap : apartR ds = true) (hl : lexR ops = true)
    (V : Nat → Value → World → Prop) (R : World → Prop) (Rel : World → World → Prop) (a0 : Act)
    (hst : ∀ i x w w', V i x w → Rel w w' → V i x w')
    (hstep : ∀ i o, ops[i]? = some o → ∀ (v : Nat → Value) (w : World), R w → (∀ e ∈ o.after, Region.binds md e = true → V e.on (v e.on) w) →
      ∀ K : Act → World → Prop, Shut (∀ x w', R w' → Rel w w' → V i x w' → K ((fillR ds v 0 a0).put o.dst x) w') →
        if Region.wanted o (yielded ops (fillR ds v 0 a0).tmps) = true then Oper.wp P o (fillR ds v 0 a0) w K Q else K ((fillR ds v 0 a0).put o.dst undef) w)
    (hfin : ∀ (v : Nat → Value) (w : World), R w → (∀ i, i < ops.size → V i (v i) w) → Q .normal (fillR ds v 0 a0) w) :
    ∀ (fuel : Nat) (listed : Array Bool) (v : Nat → Value) (w : World), listed.size = ops.size → leftR listed ≤ fuel → R w → (∀ i, listed.getD i false = true → V i (v i) w) →
      wpAny P md ops Q fuel listed (fillR ds v 0 a0) w := by
  intro fuel
  induction fuel with
  | zero =>
    intro listed v w hs hf hR hV
    have hall : ∀ i, i < ops.size → listed.getD i false = true := by
      intro i hi
      cases hb : listed.getD i false with
      | true => rfl
      | false =>
        have h' : listed.getD i true = false := by simpa [hs, hi] using hb
        have := leftR_set h'
        omega
    refine ⟨?_, hfin v w hR (fun i hi => hV i (hall i hi))⟩
    cases hr : Region.ready md ops listed with
    | nil => rfl
    | cons i rs =>
      have hm : i ∈ Region.ready md ops listed := by rw [hr]; simp
      obtain ⟨h0, o, ho, _⟩ := mem_ready.1 hm
      have hi := (Array.getElem?_eq_some_iff.1 ho).1
      have := hall i hi
      simp [hs, hi] at this h0
      rw [this] at h0
      cases h0
  | succ fuel ih =>
    intro listed v w hs hf hR hV
    refine ⟨fun hr => hfin v w hR (fun i hi => hV i (all_listed hl hs hr i hi)), fun i hi => ?_⟩
    obtain ⟨h0, o, ho, hall⟩ := mem_ready.1 hi
    have hil := (Array.getElem?_eq_some_iff.1 ho).1
    refine wpOp_step ho fun K hK => hstep i o ho v w hR (fun e he hb => hV e.on (hall e he hb)) K ?_
    intro x w' hR' hrel hV'
    refine hK _ _ ?_
    have hd : ds[i]? = some o.dst := by
      rw [← hds, List.getElem?_map]
      have : ops.toList[i]? = some o := by simpa using ho
      rw [this]
      rfl
    rw [put_fill ds hap v 0 a0 i o.dst x hd, Nat.zero_add]
    refine ih _ _ _ (by simpa using hs) (by have := leftR_set h0; omega) hR' fun j hj => ?_
    by_cases hji : j = i
    · subst hji
      simpa [setV] using hV'
    · have : listed.getD j false = true := by rw [getD_set_ne false (Ne.symm hji)] at hj; exact hj
      have hvj := hst j _ _ _ (hV j this) hrel
      simpa [setV, hji] using hvj

theorem wp_region_inv (ds : List (Option Tmp)) (V : Nat → Value → World → Prop) (R : World → Prop) (Rel : World → World → Prop) {id : Nat} {a0 : Act} {w : World} (hm : P.follows .mixedOrders = true)
    (hds : ops.toList.map (·.dst) = ds) (hap : apartR ds = true) (hl : lexR ops = true) (hR : R w.drew)
    (hst : ∀ i x w w', V i x w → Rel w w' → V i x w')
    (hstep : ∀ i o, ops[i]? = some o → ∀ (v : Nat → Value) (w : World), R w → (∀ e ∈ o.after, Region.binds .any e = true → V e.on (v e.on) w) →
      ∀ K : Act → World → Prop, Shut (∀ x w', R w' → Rel w w' → V i x w' → K ((fillR ds v 0 a0).put o.dst x) w') →
        if Region.wanted o (yielded ops (fillR ds v 0 a0).tmps) = true then Oper.wp P o (fillR ds v 0 a0) w K Q else K ((fillR ds v 0 a0).put o.dst undef) w)
    (hfin : ∀ (v : Nat → Value) (w : World), R w → (∀ i, i < ops.size → V i (v i) w) → Q .normal (fillR ds v 0 a0) w) : (Code.region id ops true).wp P Q a0 w := by
  refine wp_region_any hm ?_
  have hfill : fillR ds (fun i => match ds[i]? with | some (some t) => a0.tmps.getD t undef | _ => undef) 0 a0 = a0 := by
    refine fill_start a0 ds 0 _ (fun i t ht => ?_)
    simp only [Nat.zero_add, ht]
  have := wpAny_inv (P := P) (Q := Q) (md := .any) ds hds hap hl V R Rel a0 hst hstep hfin ops.size (Array.replicate ops.size false) (fun i => match ds[i]? with | some (some t) => a0.tmps.getD t undef | _ => undef) w.drew (by simp) ?_ hR ?_
  · rw [hfill] at this
    exact this
  · unfold leftR
    refine Nat.le_trans List.countP_le_length ?_
    simp
  · intro i hi
    exfalso
    rcases Nat.lt_or_ge i ops.size with h' | h'
    · simp [h'] at hi
    · simp [Nat.not_lt.2 h'] at hi

/-- One operation's step: from R and the words of those that it waits for. -/
def StepR (P : Program) (ops : Array Oper) (Q : Exit → Act → World → Prop) (ds : List (Option Tmp)) (V : Nat → Value → World → Prop) (R : World → Prop) (Rel : World → World → Prop) (a0 : Act) (i : Nat) : Prop :=
  ∀ o, ops[i]? = some o → ∀ (v : Nat → Value) (w : World), R w → (∀ e ∈ o.after, Region.binds .any e = true → V e.on (v e.on) w) →
    ∀ K : Act → World → Prop, Shut (∀ x w', R w' → Rel w w' → V i x w' → K ((fillR ds v 0 a0).put o.dst x) w') →
      if Region.wanted o (yielded ops (fillR ds v 0 a0).tmps) = true then Oper.wp P o (fillR ds v 0 a0) w K Q else K ((fillR ds v 0 a0).put o.dst undef) w
theorem StepR.of {ds : List (Option Tmp)} {V : Nat → Value → World → Prop} {R : World → Prop} {Rel : World → World → Prop} {a0 : Act} {i : Nat} {o : Oper} (ho : ops[i]? = some o) (deps : List Nat)
    (hd : (o.after.toList.filter (Region.binds .any)).map (·.on) = deps)
    (h : ∀ (v : Nat → Value) (w : World), R w → (∀ j ∈ deps, V j (v j) w) → ∀ K : Act → World → Prop, Shut (∀ x w', R w' → Rel w w' → V i x w' → K ((fillR ds v 0 a0).put o.dst x) w') →
      if Region.wanted o (yielded ops (fillR ds v 0 a0).tmps) = true then Oper.wp P o (fillR ds v 0 a0) w K Q else K ((fillR ds v 0 a0).put o.dst undef) w) : StepR P ops Q ds V R Rel a0 i := by
  intro o' ho' v w hR hdep K hK
  rw [ho] at ho'
  cases ho'
  refine h v w hR (fun j hj => ?_) K hK
  subst hd
  obtain ⟨e, he, rfl⟩ := List.mem_map.1 hj
  obtain ⟨h1, h2⟩ := List.mem_filter.1 he
  exact hdep e (by simpa using h1) h2
theorem wp_region_steps (ds : List (Option Tmp)) (V : Nat → Value → World → Prop) (R : World → Prop) (Rel : World → World → Prop) (n : Nat) {id : Nat} {a0 : Act} {w : World} (hm : P.follows .mixedOrders = true)
    (hn : ops.size = n) (hds : ops.toList.map (·.dst) = ds) (hap : apartR ds = true) (hl : lexR ops = true) (hR : R w.drew)
    (hst : ∀ i x w w', V i x w → Rel w w' → V i x w')
    (hstep : ∀ i, i < n → StepR P ops Q ds V R Rel a0 i)
    (hfin : ∀ (v : Nat → Value) (w : World), R w → (∀ i, i < n → V i (v i) w) → Q .normal (fillR ds v 0 a0) w) : (Code.region id ops true).wp P Q a0 w := by
  subst hn
  refine wp_region_inv ds V R Rel hm hds hap hl hR hst (fun i o ho => ?_) hfin
  exact hstep i (Array.getElem?_eq_some_iff.1 ho).1 o ho
end
/-! The same, where the word of an operation may look at the values of others that it waits for, and each operation leaves what it leaves. -/
theorem getD_set_mono {listed : Array Bool} {i j : Nat} (h : listed.getD j false = true) : (listed.setIfInBounds i true).getD j false = true := by
  by_cases hji : j = i
  · subst hji
    have hj : j < listed.size := by
      rcases Nat.lt_or_ge j listed.size with h' | h'
      · exact h'
      · simp [Array.getElem?_eq_none h'] at h
    simp [hj]
  · rw [getD_set_ne false (Ne.symm hji)]
    exact h
theorem getD_set_own {listed : Array Bool} {i : Nat} (h : listed.getD i true = false) : (listed.setIfInBounds i true).getD i false = true := by
  have hi : i < listed.size := by
    rcases Nat.lt_or_ge i listed.size with h' | h'
    · exact h'
    · simp [Array.getElem?_eq_none h'] at h
  simp [hi]
section
variable {P : Program} {ops : Array Oper} {Q : Exit → Act → World → Prop} {md : Region.Mode}
/-- One operation's step. -/
def StepL (P : Program) (md : Region.Mode) (ops : Array Oper) (Q : Exit → Act → World → Prop) (ds : List (Option Tmp)) (V : Nat → (Nat → Value) → World → Prop) (R : World → Prop) (Rel : Nat → World → World → Prop) (a0 : Act) (i : Nat) : Prop :=
  ∀ o, ops[i]? = some o → ∀ (v : Nat → Value) (w : World), R w → (∀ e ∈ o.after, Region.binds md e = true → V e.on v w) →
    ∀ K : Act → World → Prop, Shut (∀ x w', R w' → Rel i w w' → V i (setV v i x) w' → K ((fillR ds v 0 a0).put o.dst x) w') →
      if Region.wanted o (yielded ops (fillR ds v 0 a0).tmps) = true then Oper.wp P o (fillR ds v 0 a0) w K Q else K ((fillR ds v 0 a0).put o.dst undef) w
/-- Does operation i wait for each of these? -/
def waitsR (md : Region.Mode) (ops : Array Oper) (i : Nat) (look : List Nat) : Bool := match ops[i]? with | some o => look.all fun j => o.after.any fun e => Region.binds md e && e.on == j | none => true

theorem StepL.of {ds : List (Option Tmp)} {V : Nat → (Nat → Value) → World → Prop} {R : World → Prop} {Rel : Nat → World → World → Prop} {a0 : Act} {i : Nat} {o : Oper} (ho : ops[i]? = some o) (deps : List Nat)
    (hd : waitsR md ops i deps = true)
    (h : ∀ (v : Nat → Value) (w : World), R w → (∀ j ∈ deps, V j v w) → ∀ K : Act → World → Prop, Shut (∀ x w', R w' → Rel i w w' → V i (setV v i x) w' → K ((fillR ds v 0 a0).put o.dst x) w') →
      if Region.wanted o (yielded ops (fillR ds v 0 a0).tmps) = true then Oper.wp P o (fillR ds v 0 a0) w K Q else K ((fillR ds v 0 a0).put o.dst undef) w) : StepL P md ops Q ds V R Rel a0 i := by
  intro o' ho' v w hR hdep K hK
  rw [ho] at ho'
  cases ho'
  refine h v w hR (fun j hj => ?_) K hK
  unfold waitsR at hd
  rw [ho] at hd
  have := List.all_eq_true.1 hd j hj
  obtain ⟨q, hq, he⟩ := Array.any_eq_true.1 this
  simp only [Bool.and_eq_true, beq_iff_eq] at he
  have := hdep o.after[q] (Array.getElem_mem _) he.1
  rwa [he.2] at this

theorem wpAny_look (ds : List (Option Tmp)) (hds : ops.toList.map (·.dst) = ds) (hap : apartR ds = true) (hl : lexR ops = true)
    (V : Nat → (Nat → Value) → World → Prop) (look : Nat → List Nat) (R : World → Prop) (Rel : Nat → World → World → Prop) (a0 : Act)
    (hloc : ∀ i v j x w, V i v w → j ≠ i → j ∉ look i → V i (setV v j x) w)
    (hlook : ∀ i, i < ops.size → waitsR md ops i (look i) = true)
    (hst : ∀ i k v w w', k ≠ i → V i v w → Rel k w w' → V i v w')
    (hstep : ∀ i, i < ops.size → StepL P md ops Q ds V R Rel a0 i)
    (hfin : ∀ (v : Nat → Value) (w : World), R w → (∀ i, i < ops.size → V i v w) → Q .normal (fillR ds v 0 a0) w) :
    ∀ (fuel : Nat) (listed : Array Bool) (v : Nat → Value) (w : World), listed.size = ops.size → leftR listed ≤ fuel → R w → (∀ i, listed.getD i false = true → V i v w ∧ ∀ j ∈ look i, listed.getD j false = true) →
      wpAny P md ops Q fuel listed (fillR ds v 0 a0) w := by
  intro fuel
  induction fuel with
  | zero =>
    intro listed v w hs hf hR hV
    have hall : ∀ i, i < ops.size → listed.getD i false = true := by
      intro i hi
      cases hb : listed.getD i false with
      | true => rfl
      | false =>
        have h' : listed.getD i true = false := by simpa [hs, hi] using hb
        have := leftR_set h'
        omega
    refine ⟨?_, hfin v w hR (fun i hi => (hV i (hall i hi)).1)⟩
    cases hr : Region.ready md ops listed with
    | nil => rfl
    | cons i rs =>
      have hm : i ∈ Region.ready md ops listed := by rw [hr]; simp
      obtain ⟨h0, o, ho, _⟩ := mem_ready.1 hm
      have hi := (Array.getElem?_eq_some_iff.1 ho).1
      have := hall i hi
      simp [hs, hi] at this h0
      rw [this] at h0
      cases h0
  | succ fuel ih =>
    intro listed v w hs hf hR hV
    refine ⟨fun hr => hfin v w hR (fun i hi => (hV i (all_listed hl hs hr i hi)).1), fun i hi => ?_⟩
    obtain ⟨h0, o, ho, hall⟩ := mem_ready.1 hi
    have hil := (Array.getElem?_eq_some_iff.1 ho).1
    refine wpOp_step ho fun K hK => hstep i hil o ho v w hR (fun e he hb => (hV e.on (hall e he hb)).1) K ?_
    intro x w' hR' hrel hV'
    refine hK _ _ ?_
    have hd : ds[i]? = some o.dst := by
      rw [← hds, List.getElem?_map]
      have : ops.toList[i]? = some o := by simpa using ho
      rw [this]
      rfl
    rw [put_fill ds hap v 0 a0 i o.dst x hd, Nat.zero_add]
    refine ih _ _ _ (by simpa using hs) (by have := leftR_set h0; omega) hR' fun j hj => ?_
    by_cases hji : j = i
    · subst hji
      refine ⟨hV', fun k hk => ?_⟩
      have hw := hlook j hil
      unfold waitsR at hw
      rw [ho] at hw
      have := List.all_eq_true.1 hw k hk
      obtain ⟨q, hq, he⟩ := Array.any_eq_true.1 this
      simp only [Bool.and_eq_true, beq_iff_eq] at he
      have hl' := hall o.after[q] (Array.getElem_mem _) he.1
      rw [he.2] at hl'
      exact getD_set_mono hl'
    · have hlj : listed.getD j false = true := by rw [getD_set_ne false (Ne.symm hji)] at hj; exact hj
      obtain ⟨hvj, hlk⟩ := hV j hlj
      refine ⟨hloc j v i x w' (hst j i _ _ _ (Ne.symm hji) hvj hrel) (Ne.symm hji) (fun hi' => ?_), fun k hk => getD_set_mono (hlk k hk)⟩
      have h1 := hlk i hi'
      have hil' : i < listed.size := by omega
      simp [hil'] at h0 h1
      rw [h1] at h0
      cases h0

theorem wp_region_look (ds : List (Option Tmp)) (V : Nat → (Nat → Value) → World → Prop) (look : Nat → List Nat) (R : World → Prop) (Rel : Nat → World → World → Prop) (n : Nat) {id : Nat} {a0 : Act} {w : World} (hm : P.follows .mixedOrders = true)
    (hn : ops.size = n) (hds : ops.toList.map (·.dst) = ds) (hap : apartR ds = true) (hl : lexR ops = true) (hR : R w.drew)
    (hloc : ∀ i v j x w, V i v w → j ≠ i → j ∉ look i → V i (setV v j x) w)
    (hlook : ∀ i, i < n → waitsR .any ops i (look i) = true)
    (hst : ∀ i k v w w', k ≠ i → V i v w → Rel k w w' → V i v w')
    (hstep : ∀ i, i < n → StepL P .any ops Q ds V R Rel a0 i)
    (hfin : ∀ (v : Nat → Value) (w : World), R w → (∀ i, i < n → V i v w) → Q .normal (fillR ds v 0 a0) w) : (Code.region id ops true).wp P Q a0 w := by
  subst hn
  refine wp_region_any hm ?_
  have hfill : fillR ds (fun i => match ds[i]? with | some (some t) => a0.tmps.getD t undef | _ => undef) 0 a0 = a0 := by
    refine fill_start a0 ds 0 _ (fun i t ht => ?_)
    simp only [Nat.zero_add, ht]
  have := wpAny_look (P := P) (Q := Q) (md := .any) ds hds hap hl V look R Rel a0 hloc hlook hst hstep hfin ops.size (Array.replicate ops.size false) (fun i => match ds[i]? with | some (some t) => a0.tmps.getD t undef | _ => undef) w.drew (by simp) ?_ hR ?_
  · rw [hfill] at this
    exact this
  · unfold leftR
    refine Nat.le_trans List.countP_le_length ?_
    simp
  · intro i hi
    exfalso
    rcases Nat.lt_or_ge i ops.size with h' | h'
    · simp [h'] at hi
    · simp [Nat.not_lt.2 h'] at hi
end
end Go.Proofs.YtlpljedacohngaaGreatDoor
end

/-
  A region that draws its order, whose last operation waits for all others: whatever the order, each operation's word holds ahead of the last one, and what it leaves is what the region leaves. Conditions: those of the theorem.
-/

section
set_option maxRecDepth 100000
set_option linter.unusedSimpArgs false
set_option linter.unusedVariables false
namespace Go.Proofs.YtlpljedacohngaaGreatDoor
section
variable {P : Program} {ops : Array Oper} {Q : Exit → Act → World → Prop} {md : Region.Mode}

theorem wpAny_done (a : Act) (w : World) {listed : Array Bool} (hs : listed.size = ops.size) (hall : ∀ i, i < ops.size → listed.getD i false = true) (hQ : Q .normal a w) : ∀ fuel, wpAny P md ops Q fuel listed a w := by
  have hno : ∀ i, i ∉ Region.ready md ops listed := by
    intro i hm
    obtain ⟨h0, o, ho, _⟩ := mem_ready.1 hm
    have hi := (Array.getElem?_eq_some_iff.1 ho).1
    have := hall i hi
    simp [hs, hi] at this h0
    rw [this] at h0
    cases h0
  intro fuel
  cases fuel with
  | zero => exact ⟨List.eq_nil_iff_forall_not_mem.2 hno, hQ⟩
  | succ fuel => exact ⟨fun _ => hQ, fun i hi => absurd hi (hno i)⟩

/-- What the last operation's step is to show. -/
def LastL (P : Program) (ops : Array Oper) (Q : Exit → Act → World → Prop) (ds : List (Option Tmp)) (V : Nat → (Nat → Value) → World → Prop) (R : World → Prop) (a0 : Act) (L : Nat) : Prop :=
  ∀ o, ops[L]? = some o → ∀ (v : Nat → Value) (w : World), R w → (∀ i, i < L → V i v w) → ∀ K : Act → World → Prop, Shut (∀ x w', Q .normal (fillR ds (setV v L x) 0 a0) w' → K ((fillR ds v 0 a0).put o.dst x) w') →
      if Region.wanted o (yielded ops (fillR ds v 0 a0).tmps) = true then Oper.wp P o (fillR ds v 0 a0) w K Q else K ((fillR ds v 0 a0).put o.dst undef) w
theorem LastL.of {ds : List (Option Tmp)} {V : Nat → (Nat → Value) → World → Prop} {R : World → Prop} {a0 : Act} {L : Nat} {o : Oper} (ho : ops[L]? = some o)
    (h : ∀ (v : Nat → Value) (w : World), R w → (∀ i, i < L → V i v w) → ∀ K : Act → World → Prop, Shut (∀ x w', Q .normal (fillR ds (setV v L x) 0 a0) w' → K ((fillR ds v 0 a0).put o.dst x) w') →
      if Region.wanted o (yielded ops (fillR ds v 0 a0).tmps) = true then Oper.wp P o (fillR ds v 0 a0) w K Q else K ((fillR ds v 0 a0).put o.dst undef) w) : LastL P ops Q ds V R a0 L := by
  intro o' ho'
  rw [ho] at ho'
  cases ho'
  exact h
theorem wanted_plain {o : Oper} (h : o.guard = none) (y) : Region.wanted o y = true := by unfold Region.wanted; rw [h]
theorem LastL.plain {ds : List (Option Tmp)} {V : Nat → (Nat → Value) → World → Prop} {R : World → Prop} {a0 : Act} {L : Nat} (hgd : ∀ o, ops[L]? = some o → o.guard = none)
    (h : ∀ o, ops[L]? = some o → ∀ (v : Nat → Value) (w : World), R w → (∀ i, i < L → V i v w) → ∀ K : Act → World → Prop, Shut (∀ x w', Q .normal (fillR ds (setV v L x) 0 a0) w' → K ((fillR ds v 0 a0).put o.dst x) w') → Oper.wp P o (fillR ds v 0 a0) w K Q) : LastL P ops Q ds V R a0 L := by
  intro o ho v w hR hV K hK
  rw [if_pos (wanted_plain (hgd o ho) _)]
  exact h o ho v w hR hV K hK
theorem wpAny_last (ds : List (Option Tmp)) (hds : ops.toList.map (·.dst) = ds) (hap : apartR ds = true) (hl : lexR ops = true)
    (V : Nat → (Nat → Value) → World → Prop) (R : World → Prop) (Rel : Nat → World → World → Prop) (a0 : Act) (L : Nat) (hL : ops.size = L + 1) (hw : waitsR md ops L (List.range L) = true)
    (hloc : ∀ i v j x w, V i v w → j ≠ i → V i (setV v j x) w)
    (hst : ∀ i k v w w', k ≠ i → V i v w → Rel k w w' → V i v w')
    (hstep : ∀ i, i < L → StepL P md ops Q ds V R Rel a0 i)
    (hlast : LastL P ops Q ds V R a0 L) :
    ∀ (fuel : Nat) (listed : Array Bool) (v : Nat → Value) (w : World), listed.size = ops.size → leftR listed ≤ fuel → listed.getD L true = false → R w → (∀ i, listed.getD i false = true → V i v w) →
      wpAny P md ops Q fuel listed (fillR ds v 0 a0) w := by
  intro fuel
  induction fuel with
  | zero =>
    intro listed v w hs hf h0 hR hV
    have := leftR_set h0
    omega
  | succ fuel ih =>
    intro listed v w hs hf hL0 hR hV
    refine ⟨fun hr => ?_, fun i hi => ?_⟩
    · have := all_listed hl hs hr L (by omega)
      have hLl : L < listed.size := by omega
      simp [hLl] at this hL0
      rw [this] at hL0
      cases hL0
    obtain ⟨h0, o, ho, hall⟩ := mem_ready.1 hi
    have hil := (Array.getElem?_eq_some_iff.1 ho).1
    have hd : ds[i]? = some o.dst := by
      rw [← hds, List.getElem?_map]
      have : ops.toList[i]? = some o := by simpa using ho
      rw [this]
      rfl
    by_cases hiL : i = L
    · subst hiL
      have hothers : ∀ j, j < i → listed.getD j false = true := by
        intro j hj
        have hw' := hw
        unfold waitsR at hw'
        rw [ho] at hw'
        have := List.all_eq_true.1 hw' j (List.mem_range.2 hj)
        obtain ⟨q, hq, he⟩ := Array.any_eq_true.1 this
        simp only [Bool.and_eq_true, beq_iff_eq] at he
        have hl' := hall o.after[q] (Array.getElem_mem _) he.1
        rwa [he.2] at hl'
      refine wpOp_step ho fun K hK => hlast o ho v w hR (fun j hj => hV j (hothers j hj)) K ?_
      intro x w' hQ
      refine hK _ _ ?_
      rw [put_fill ds hap v 0 a0 i o.dst x hd, Nat.zero_add]
      refine wpAny_done _ _ (by simpa using hs) (fun j hj => ?_) hQ fuel
      by_cases hji : j = i
      · subst hji
        exact getD_set_own h0
      · exact getD_set_mono (hothers j (by omega))
    · refine wpOp_step ho fun K hK => hstep i (by omega) o ho v w hR (fun e he hb => hV e.on (hall e he hb)) K ?_
      intro x w' hR' hrel hV'
      refine hK _ _ ?_
      rw [put_fill ds hap v 0 a0 i o.dst x hd, Nat.zero_add]
      refine ih _ _ _ (by simpa using hs) (by have := leftR_set h0; omega) (by rw [getD_set_ne true hiL]; exact hL0) hR' fun j hj => ?_
      by_cases hji : j = i
      · subst hji
        exact hV'
      · have hlj : listed.getD j false = true := by rw [getD_set_ne false (Ne.symm hji)] at hj; exact hj
        exact hloc j v i x w' (hst j i _ _ _ (Ne.symm hji) (hV j hlj) hrel) (Ne.symm hji)

theorem wp_region_last (ds : List (Option Tmp)) (V : Nat → (Nat → Value) → World → Prop) (R : World → Prop) (Rel : Nat → World → World → Prop) (L : Nat) {id : Nat} {a0 : Act} {w : World} (hm : P.follows .mixedOrders = true)
    (hL : ops.size = L + 1) (hds : ops.toList.map (·.dst) = ds) (hap : apartR ds = true) (hl : lexR ops = true) (hw : waitsR .any ops L (List.range L) = true) (hR : R w.drew)
    (hloc : ∀ i v j x w, V i v w → j ≠ i → V i (setV v j x) w)
    (hst : ∀ i k v w w', k ≠ i → V i v w → Rel k w w' → V i v w')
    (hstep : ∀ i, i < L → StepL P .any ops Q ds V R Rel a0 i)
    (hlast : LastL P ops Q ds V R a0 L) : (Code.region id ops true).wp P Q a0 w := by
  refine wp_region_any hm ?_
  have hfill : fillR ds (fun i => match ds[i]? with | some (some t) => a0.tmps.getD t undef | _ => undef) 0 a0 = a0 := by
    refine fill_start a0 ds 0 _ (fun i t ht => ?_)
    simp only [Nat.zero_add, ht]
  have := wpAny_last (P := P) (Q := Q) (md := .any) ds hds hap hl V R Rel a0 L hL hw hloc hst hstep hlast ops.size (Array.replicate ops.size false) (fun i => match ds[i]? with | some (some t) => a0.tmps.getD t undef | _ => undef) w.drew (by simp) ?_ ?_ hR ?_
  · rw [hfill] at this
    exact this
  · unfold leftR
    refine Nat.le_trans List.countP_le_length ?_
    simp
  · simp [hL]
  · intro i hi
    exfalso
    rcases Nat.lt_or_ge i ops.size with h' | h'
    · simp [h'] at hi
    · simp [Nat.not_lt.2 h'] at hi
end
theorem fill_size : ∀ (ds : List (Option Tmp)) (v : Nat → Value) (k : Nat) (a : Act), (fillR ds v k a).tmps.size = a.tmps.size
  | [], _, _, _ => rfl
  | d :: ds, v, k, a => by
    unfold fillR
    rw [fill_size ds v (k + 1)]
    cases d <;> simp [Act.put]
/-- What an operation's slot reads. -/
theorem fill_eval : ∀ (ds : List (Option Tmp)) (v : Nat → Value) (k : Nat) (a : Act) (i : Nat) (d : Tmp), apartR ds = true → ds[i]? = some (some d) → d < a.tmps.size → (fillR ds v k a).eval (.tmp d) = v (k + i)
  | [], _, _, _, _, _, _, h, _ => by simp at h
  | d' :: ds, v, k, a, 0, d, hn, h, hs => by
    simp only [List.getElem?_cons_zero, Option.some.injEq] at h
    subst h
    simp only [apartR, Bool.and_eq_true, Bool.not_eq_true', List.contains_eq_mem, decide_eq_false_iff_not] at hn
    unfold fillR
    rw [← put_through ds v (k + 1) a (some d) (v k) (fun t ht hm => by cases ht; exact hn.1 hm)]
    have := fill_size ds v (k + 1) a
    have h2 : d < (fillR ds v (k + 1) a).tmps.size := by rw [this]; exact hs
    simp [Act.eval, Act.put, h2]
  | d' :: ds, v, k, a, i + 1, d, hn, h, hs => by
    simp only [List.getElem?_cons_succ] at h
    have hn' : apartR ds = true := by
      cases d' with
      | none => exact hn
      | some t => simp only [apartR, Bool.and_eq_true] at hn; exact hn.2
    unfold fillR
    have hs' : d < (a.put d' (v k)).tmps.size := by cases d' <;> simpa [Act.put] using hs
    rw [fill_eval ds v (k + 1) _ i d hn' h hs', Nat.add_assoc, Nat.add_comm 1 i]
/-- What follows a piece of code, under a name. -/
theorem wp_hideQ {P : Program} {c : Code} {Q : Exit → Act → World → Prop} {a : Act} {w : World} (h : ∀ Q', (∀ e a w, Q e a w → Q' e a w) → c.wp P Q' a w) : c.wp P Q a w := h Q (fun _ _ _ h => h)
end Go.Proofs.YtlpljedacohngaaGreatDoor
end

/-
  A region that draws its order, within a round of a range over a function: the rule by what each operation leaves serves there too. Conditions: those of the theorem; no operation defers.
-/

section
set_option maxRecDepth 100000
set_option linter.unusedSimpArgs false
set_option linter.unusedVariables false
namespace Go.Proofs.YtlpljedacohngaaGreatDoor

theorem rows_in {n : Nat} {P : Program} {row : String} {args : Array Value} {w : World} {R : Value → World → Prop} (h : Rows P row args w R) : RowsIn Fence.wide n P row args w R :=
  fun c cs _ => let ⟨v, w', r, s⟩ := h c cs; ⟨v, w', r, stepsIn_wide.2 s⟩
/-- One operation. -/
theorem oper_in {n l : Nat} {P : Program} {o : Oper} {a : Act} {w : World} {K : Act → World → Prop} {Q : Exit → Act → World → Prop} (hnd : ∀ c, o.op ≠ .defer c) (h : o.wp P a w K Q) : o.wpIn (Fence.wide.inRound l) n P a w K Q := by
  refine ⟨fun _ _ => trivial, ?_⟩
  rw [Oper.semAt_eq _ _ _ hnd]
  unfold Oper.wp at h
  generalize (execOp a.eval o).run P w = r at *
  cases r with
  | ok x w' =>
    cases x <;> first
      | exact h
      | exact h.elim
      | exact ⟨fun hd => by simp [Fence.wide] at hd, CallsIn.inRound l (callsIn_wide.2 (Calls.mono h fun e w'' he => by cases e <;> exact he))⟩
      | exact ⟨fun hd => by simp [Fence.wide] at hd, rows_in h⟩
  | halt x w' => cases x <;> exact h
section
variable {P : Program} {ops : Array Oper} {Q : Exit → Act → World → Prop} {md : Region.Mode}
theorem any_in {n l : Nat} (hnd : ∀ o ∈ ops.toList, ∀ c, o.op ≠ .defer c) (hno : ¬ LetsOut Q) : ∀ (fuel : Nat) (listed : Array Bool) (a : Act) (w : World), wpAny P md ops Q fuel listed a w → wpAnyIn (Fence.wide.inRound l) n P md ops Q fuel listed a w
  | 0, _, _, _, h => h
  | fuel + 1, listed, a, w, h => ⟨h.1, fun i hi => by
    have := h.2 i hi
    unfold wpOp at this
    unfold wpOpIn
    split
    · rename_i he
      rw [he] at this
      exact any_in hnd hno fuel _ _ _ this
    · rename_i o ho
      rw [ho] at this
      simp only at this
      have hmem : o ∈ ops.toList := by
        obtain ⟨hi, e⟩ := Array.getElem?_eq_some_iff.1 ho
        rw [← e]
        exact Array.getElem_mem_toList hi
      split
      · rename_i hw
        rw [if_pos hw] at this
        rcases this with this | ⟨_, hl⟩
        · exact oper_in (hnd o hmem) (Oper.wp_mono (fun a w => any_in hnd hno fuel _ a w) this)
        · exact absurd hl hno
      · rename_i hw
        rw [if_neg hw] at this
        exact ⟨fun _ _ => trivial, any_in hnd hno fuel _ _ _ this⟩⟩
/-- Does an operation defer? -/
def defers_ (o : Oper) : Bool := match o.op with | .defer _ => true | _ => false
theorem no_defers {ops : Array Oper} (h : ops.toList.all (fun o => !defers_ o) = true) : ∀ o ∈ ops.toList, ∀ c, o.op ≠ .defer c := by
  intro o ho c e
  have := List.all_eq_true.1 h o ho
  unfold defers_ at this
  rw [e] at this
  cases this
theorem wpIn_region_look {n l : Nat} (ds : List (Option Tmp)) (V : Nat → (Nat → Value) → World → Prop) (look : Nat → List Nat) (R : World → Prop) (Rel : Nat → World → World → Prop) (m : Nat) {id : Nat} {a0 : Act} {w : World} (hm : P.follows .mixedOrders = true)
    (hnd : ops.toList.all (fun o => !defers_ o) = true) (hno : ¬ LetsOut Q)
    (hn : ops.size = m) (hds : ops.toList.map (·.dst) = ds) (hap : apartR ds = true) (hl : lexR ops = true) (hR : R w.drew)
    (hloc : ∀ i v j x w, V i v w → j ≠ i → j ∉ look i → V i (setV v j x) w)
    (hlook : ∀ i, i < m → waitsR .any ops i (look i) = true)
    (hst : ∀ i k v w w', k ≠ i → V i v w → Rel k w w' → V i v w')
    (hstep : ∀ i, i < m → StepL P .any ops Q ds V R Rel a0 i)
    (hfin : ∀ (v : Nat → Value) (w : World), R w → (∀ i, i < m → V i v w) → Q .normal (fillR ds v 0 a0) w) : (Code.region id ops true).wpIn (Fence.wide.inRound l) n P Q a0 w := by
  subst hn
  refine wpIn_region_any hm (any_in (no_defers hnd) hno _ _ _ _ ?_)
  have hfill : fillR ds (fun i => match ds[i]? with | some (some t) => a0.tmps.getD t undef | _ => undef) 0 a0 = a0 := by
    refine fill_start a0 ds 0 _ (fun i t ht => ?_)
    simp only [Nat.zero_add, ht]
  have := wpAny_look (P := P) (Q := Q) (md := .any) ds hds hap hl V look R Rel a0 hloc hlook hst hstep hfin ops.size (Array.replicate ops.size false) (fun i => match ds[i]? with | some (some t) => a0.tmps.getD t undef | _ => undef) w.drew (by simp) ?_ hR ?_
  · rw [hfill] at this
    exact this
  · unfold leftR
    refine Nat.le_trans List.countP_le_length ?_
    simp
  · intro i hi
    exfalso
    rcases Nat.lt_or_ge i ops.size with h' | h'
    · simp [h'] at hi
    · simp [Nat.not_lt.2 h'] at hi
end
end Go.Proofs.YtlpljedacohngaaGreatDoor
end

/-
  A region that draws its order, whose last operations wait for all ahead of them: whatever the order of the others, each one's word holds ahead of those, and those come one by one. Within a round of a range over a function, too. Conditions: those of the theorems.
-/

section
set_option linter.unusedSimpArgs false
set_option linter.unusedVariables false
set_option maxRecDepth 100000
namespace Go.Proofs.YtlpljedacohngaaGreatDoor

/-- Which earlier operations an operation waits for, at whatever remove. -/
def ancR (md : Region.Mode) (ops : Array Oper) : Nat → Nat → List Nat
  | 0, _ => []
  | k + 1, i => match ops[i]? with
    | some o => (o.after.toList.filter (Region.binds md)).flatMap fun e => e.on :: ancR md ops k e.on
    | none => []
/-- Does each operation from L on wait for all ahead of it? -/
def tailR (md : Region.Mode) (ops : Array Oper) (L : Nat) : Bool := (List.range ops.size).all fun i => decide (i < L) || (List.range i).all fun j => (ancR md ops ops.size i).contains j
section
variable {P : Program} {ops : Array Oper} {Q : Exit → Act → World → Prop} {md : Region.Mode}
/-- What is listed is so with all that it waits for. -/
def ClosedR (md : Region.Mode) (ops : Array Oper) (listed : Array Bool) : Prop := ∀ i, listed.getD i false = true → ∀ o, ops[i]? = some o → ∀ e ∈ o.after, Region.binds md e = true → listed.getD e.on false = true
theorem anc_listed {listed : Array Bool} (hc : ClosedR md ops listed) : ∀ (k i : Nat), (∀ o, ops[i]? = some o → ∀ e ∈ o.after, Region.binds md e = true → listed.getD e.on false = true) → ∀ j ∈ ancR md ops k i, listed.getD j false = true
  | 0, _, _, j, hj => by cases hj
  | k + 1, i, hi, j, hj => by
    unfold ancR at hj
    split at hj
    · rename_i o ho
      obtain ⟨e, he, hj⟩ := List.mem_flatMap.1 hj
      obtain ⟨h1, h2⟩ := List.mem_filter.1 he
      have hl := hi o ho e (by simpa using h1) h2
      rcases List.mem_cons.1 hj with rfl | hj
      · exact hl
      · exact anc_listed hc k e.on (hc e.on hl) j hj
    · cases hj
theorem tail_ready {listed : Array Bool} {L i : Nat} (ht : tailR md ops L = true) (hc : ClosedR md ops listed) (hL : L ≤ i) {o : Oper} (ho : ops[i]? = some o) (hall : ∀ e ∈ o.after, Region.binds md e = true → listed.getD e.on false = true) : ∀ j, j < i → listed.getD j false = true := by
  intro j hj
  have hi := (Array.getElem?_eq_some_iff.1 ho).1
  have h1 := List.all_eq_true.1 ht i (List.mem_range.2 hi)
  simp only [Bool.or_eq_true, decide_eq_true_eq] at h1
  rcases h1 with h1 | h1
  · omega
  · have h2 := List.all_eq_true.1 h1 j (List.mem_range.2 hj)
    refine anc_listed hc ops.size i (fun o' ho' => ?_) j (by simpa using h2)
    rw [ho] at ho'
    cases ho'
    exact hall
theorem getD_tf {listed : Array Bool} {i : Nat} (hi : i < listed.size) : listed.getD i true = listed.getD i false := by simp [hi]
theorem closed_set {listed : Array Bool} {i : Nat} (hc : ClosedR md ops listed) {o : Oper} (ho : ops[i]? = some o) (hall : ∀ e ∈ o.after, Region.binds md e = true → listed.getD e.on false = true) : ClosedR md ops (listed.setIfInBounds i true) := by
  intro j hj o' ho' e he hb
  by_cases hji : j = i
  · subst hji
    rw [ho] at ho'
    cases ho'
    exact getD_set_mono (hall e he hb)
  · rw [getD_set_ne false (Ne.symm hji)] at hj
    exact getD_set_mono (hc j hj o' ho' e he hb)
theorem wpAny_list (hl : lexR ops = true) {L : Nat} (ht : tailR md ops L = true) : ∀ (fuel : Nat) (listed : Array Bool) (i : Nat) (a : Act) (w : World), listed.size = ops.size → L ≤ i → i ≤ ops.size → (∀ j, j < i → listed.getD j false = true) → (∀ j, i ≤ j → listed.getD j false = false) → ops.size - i ≤ fuel →
    wpList P ops Q (ops.toList.drop i) a w → wpAny P md ops Q fuel listed a w := by
  intro fuel
  induction fuel with
  | zero =>
    intro listed i a w hs hL hi h1 h2 hf h
    obtain rfl : i = ops.size := by omega
    rw [List.drop_of_length_le (by simp)] at h
    exact wpAny_done a w hs h1 h 0
  | succ fuel ih =>
    intro listed i a w hs hL hi h1 h2 hf h
    rcases Nat.lt_or_ge i ops.size with hlt | hge
    · refine ⟨fun hr => ?_, fun j hj => ?_⟩
      · have := all_listed hl hs hr i hlt
        rw [h2 i (Nat.le_refl _)] at this
        cases this
      · obtain ⟨h0, o, ho, hall⟩ := mem_ready.1 hj
        have hjl := (Array.getElem?_eq_some_iff.1 ho).1
        rw [getD_tf (by omega)] at h0
        have hji : i ≤ j := by
          rcases Nat.lt_or_ge j i with h | h
          · rw [h1 j h] at h0; cases h0
          · exact h
        have hcl : ClosedR md ops listed := by
          intro k hk o' ho' e he hb
          have hk' : k < i := by
            rcases Nat.lt_or_ge k i with h | h
            · exact h
            · rw [h2 k h] at hk; cases hk
          have hkl := (Array.getElem?_eq_some_iff.1 ho').1
          have := List.all_eq_true.1 hl k (List.mem_range.2 hkl)
          rw [ho'] at this
          simp only [Array.all_eq_true_iff_forall_mem, decide_eq_true_eq] at this
          exact h1 _ (by have := this e he; omega)
        have hij : j = i := by
          rcases Nat.lt_or_ge i j with h | h
          · have := tail_ready ht hcl (by omega) ho hall i h
            rw [h2 i (Nat.le_refl _)] at this
            cases this
          · omega
        subst hij
        have hd : ops.toList.drop j = o :: ops.toList.drop (j + 1) := by
          rw [List.drop_eq_getElem_cons (by simpa using hjl)]
          congr 1
          rw [Array.getElem?_eq_getElem hjl] at ho
          simpa using ho
        rw [hd] at h
        have next : ∀ a w, wpList P ops Q (ops.toList.drop (j + 1)) a w → wpAny P md ops Q fuel (listed.setIfInBounds j true) a w := fun a w h => by
          refine ih _ (j + 1) a w (by simpa using hs) (by omega) (by omega) (fun k hk => ?_) (fun k hk => ?_) (by omega) h
          · by_cases hkj : k = j
            · subst hkj
              exact getD_set_own (by rw [getD_tf (by omega)]; exact h0)
            · exact getD_set_mono (h1 k (by omega))
          · rw [getD_set_ne false (by omega)]
            exact h2 k (by omega)
        unfold wpOp
        rw [ho]
        unfold wpList at h
        simp only
        split
        · rename_i hw
          rw [if_pos hw] at h
          rcases h with h | h
          · exact .inl (Oper.wp_mono next h)
          · exact .inr h
        · rename_i hw
          rw [if_neg hw] at h
          exact next _ _ h
    · obtain rfl : i = ops.size := by omega
      rw [List.drop_of_length_le (by simp)] at h
      exact wpAny_done a w hs h1 h _
theorem wpAny_tail (ds : List (Option Tmp)) (hds : ops.toList.map (·.dst) = ds) (hap : apartR ds = true) (hl : lexR ops = true)
    (V : Nat → (Nat → Value) → World → Prop) (R : World → Prop) (Rel : Nat → World → World → Prop) (a0 : Act) (L : Nat) (hL : L < ops.size) (ht : tailR md ops L = true)
    (hloc : ∀ i v j x w, V i v w → j ≠ i → V i (setV v j x) w)
    (hst : ∀ i k v w w', k ≠ i → V i v w → Rel k w w' → V i v w')
    (hstep : ∀ i, i < L → StepL P md ops Q ds V R Rel a0 i)
    (htail : ∀ v w, R w → (∀ i, i < L → V i v w) → wpList P ops Q (ops.toList.drop L) (fillR ds v 0 a0) w) :
    ∀ (fuel : Nat) (listed : Array Bool) (v : Nat → Value) (w : World), listed.size = ops.size → leftR listed ≤ fuel → ClosedR md ops listed → (∀ j, L ≤ j → listed.getD j false = false) → R w → (∀ i, listed.getD i false = true → V i v w) →
      wpAny P md ops Q fuel listed (fillR ds v 0 a0) w := by
  intro fuel
  induction fuel with
  | zero =>
    intro listed v w hs hf hc h2 hR hV
    have h0 : listed.getD L true = false := by rw [getD_tf (by omega)]; exact h2 L (Nat.le_refl _)
    have := leftR_set h0
    omega
  | succ fuel ih =>
    intro listed v w hs hf hc h2 hR hV
    refine ⟨fun hr => ?_, fun i hi => ?_⟩
    · have := all_listed hl hs hr L hL
      rw [h2 L (Nat.le_refl _)] at this
      cases this
    obtain ⟨h0, o, ho, hall⟩ := mem_ready.1 hi
    have hil := (Array.getElem?_eq_some_iff.1 ho).1
    by_cases hiL : i < L
    · have hd : ds[i]? = some o.dst := by
        rw [← hds, List.getElem?_map]
        have : ops.toList[i]? = some o := by simpa using ho
        rw [this]
        rfl
      refine wpOp_step ho fun K hK => hstep i hiL o ho v w hR (fun e he hb => hV e.on (hall e he hb)) K ?_
      intro x w' hR' hrel hV'
      refine hK _ _ ?_
      rw [put_fill ds hap v 0 a0 i o.dst x hd, Nat.zero_add]
      refine ih _ _ _ (by simpa using hs) (by have := leftR_set h0; omega) (closed_set hc ho hall) (fun j hj => by rw [getD_set_ne false (by omega)]; exact h2 j hj) hR' fun j hj => ?_
      by_cases hji : j = i
      · subst hji
        exact hV'
      · have hlj : listed.getD j false = true := by rw [getD_set_ne false (Ne.symm hji)] at hj; exact hj
        exact hloc j v i x w' (hst j i _ _ _ (Ne.symm hji) (hV j hlj) hrel) (Ne.symm hji)
    · have hpre := tail_ready ht hc (by omega) ho hall
      have hiL' : i = L := by
        rcases Nat.lt_or_ge L i with h | h
        · have := hpre L h
          rw [h2 L (Nat.le_refl _)] at this
          cases this
        · omega
      subst hiL'
      have hfull : wpAny P md ops Q (fuel + 1) listed (fillR ds v 0 a0) w := by
        have h3 : ops.size - i ≤ fuel + 1 := by
          have : ops.size - i ≤ leftR listed := by
            unfold leftR
            have e : listed.toList = listed.toList.take i ++ listed.toList.drop i := (List.take_append_drop _ _).symm
            rw [e, List.countP_append]
            have hall' : (listed.toList.drop i).countP (fun b => !b) = (listed.toList.drop i).length := by
              rw [List.countP_eq_length]
              intro b hb
              obtain ⟨k, hk, rfl⟩ := List.getElem_of_mem hb
              rw [List.getElem_drop]
              have hk' : i + k < listed.size := by simp at hk; omega
              have := h2 (i + k) (by omega)
              simp [hk'] at this
              simpa using this
            rw [hall']
            simp
            omega
          omega
        exact wpAny_list hl ht (fuel + 1) listed i _ w hs (Nat.le_refl _) (by omega) hpre h2 h3 (htail v w hR fun j hj => hV j (hpre j hj))
      exact hfull.2 i hi
theorem wpAny_tail0 (ds : List (Option Tmp)) (V : Nat → (Nat → Value) → World → Prop) (R : World → Prop) (Rel : Nat → World → World → Prop) (L m : Nat) {a0 : Act} {w : World}
    (hm : ops.size = m) (hL : L < m) (hds : ops.toList.map (·.dst) = ds) (hap : apartR ds = true) (hl : lexR ops = true) (ht : tailR md ops L = true) (hR : R w)
    (hloc : ∀ i v j x w, V i v w → j ≠ i → V i (setV v j x) w)
    (hst : ∀ i k v w w', k ≠ i → V i v w → Rel k w w' → V i v w')
    (hstep : ∀ i, i < L → StepL P md ops Q ds V R Rel a0 i)
    (htail : ∀ v w, R w → (∀ i, i < L → V i v w) → wpList P ops Q (ops.toList.drop L) (fillR ds v 0 a0) w) : wpAny P md ops Q ops.size (Array.replicate ops.size false) a0 w := by
  subst hm
  have hfill : fillR ds (fun i => match ds[i]? with | some (some t) => a0.tmps.getD t undef | _ => undef) 0 a0 = a0 := by
    refine fill_start a0 ds 0 _ (fun i t ht => ?_)
    simp only [Nat.zero_add, ht]
  have hno : ∀ i, (Array.replicate ops.size false).getD i false = false := fun i => by
    rcases Nat.lt_or_ge i ops.size with h' | h'
    · simp [h']
    · simp [Nat.not_lt.2 h']
  have := wpAny_tail (P := P) (Q := Q) (md := md) ds hds hap hl V R Rel a0 L hL ht hloc hst hstep htail ops.size (Array.replicate ops.size false) (fun i => match ds[i]? with | some (some t) => a0.tmps.getD t undef | _ => undef) w (by simp) ?_ (fun i hi => by rw [hno i] at hi; cases hi) (fun j _ => hno j) hR ?_
  · rw [hfill] at this
    exact this
  · unfold leftR
    refine Nat.le_trans List.countP_le_length ?_
    simp
  · intro i hi
    rw [hno i] at hi
    cases hi
theorem wp_region_tail (ds : List (Option Tmp)) (V : Nat → (Nat → Value) → World → Prop) (R : World → Prop) (Rel : Nat → World → World → Prop) (L m : Nat) {id : Nat} {a0 : Act} {w : World} (hmx : P.follows .mixedOrders = true)
    (hm : ops.size = m) (hL : L < m) (hds : ops.toList.map (·.dst) = ds) (hap : apartR ds = true) (hl : lexR ops = true) (ht : tailR .any ops L = true) (hR : R w.drew)
    (hloc : ∀ i v j x w, V i v w → j ≠ i → V i (setV v j x) w)
    (hst : ∀ i k v w w', k ≠ i → V i v w → Rel k w w' → V i v w')
    (hstep : ∀ i, i < L → StepL P .any ops Q ds V R Rel a0 i)
    (htail : ∀ v w, R w → (∀ i, i < L → V i v w) → wpList P ops Q (ops.toList.drop L) (fillR ds v 0 a0) w) : (Code.region id ops true).wp P Q a0 w :=
  wp_region_any hmx (wpAny_tail0 ds V R Rel L m hm hL hds hap hl ht hR hloc hst hstep htail)
theorem wpIn_region_tail {n l : Nat} (ds : List (Option Tmp)) (V : Nat → (Nat → Value) → World → Prop) (R : World → Prop) (Rel : Nat → World → World → Prop) (L m : Nat) {id : Nat} {a0 : Act} {w : World} (hmx : P.follows .mixedOrders = true)
    (hnd : ops.toList.all (fun o => !defers_ o) = true) (hno : ¬ LetsOut Q)
    (hm : ops.size = m) (hL : L < m) (hds : ops.toList.map (·.dst) = ds) (hap : apartR ds = true) (hl : lexR ops = true) (ht : tailR .any ops L = true) (hR : R w.drew)
    (hloc : ∀ i v j x w, V i v w → j ≠ i → V i (setV v j x) w)
    (hst : ∀ i k v w w', k ≠ i → V i v w → Rel k w w' → V i v w')
    (hstep : ∀ i, i < L → StepL P .any ops Q ds V R Rel a0 i)
    (htail : ∀ v w, R w → (∀ i, i < L → V i v w) → wpList P ops Q (ops.toList.drop L) (fillR ds v 0 a0) w) : (Code.region id ops true).wpIn (Fence.wide.inRound l) n P Q a0 w :=
  wpIn_region_any hmx (any_in (no_defers hnd) hno _ _ _ _ (wpAny_tail0 ds V R Rel L m hm hL hds hap hl ht hR hloc hst hstep htail))
end
theorem wpIn_hideQ {F : Fence} {n : Nat} {P : Program} {c : Code} {Q : Exit → Act → World → Prop} {a : Act} {w : World} (hno : ¬ LetsOut Q) (h : ∀ Q', ¬ LetsOut Q' → (∀ e a w, Q e a w → Q' e a w) → c.wpIn F n P Q' a w) : c.wpIn F n P Q a w := h Q hno (fun _ _ _ h => h)
end Go.Proofs.YtlpljedacohngaaGreatDoor
end
