/-
  Drawn regions by words: what operations leave, told by a list; the rules for a region whose operations are told by kind; appends and stores in it. Plain theorems on the rules; conditions: those of each.
-/
import Derived.Test.YtlpljedacohngaaGreatDoorM1
import Derived.Test.YtlpljedacohngaaGreatDoorM2
import Derived.Test.YtlpljedacohngaaGreatDoorM3
import Derived.Deep.AppendSrc
import Derived.Deep.AppendLies
import Derived.Deep.Upon
import Derived.Test.YtlpljedacohngaaGreatDoorProg
import Derived.BigRegion
import Derived.Lib.Hide
import Derived.BigQuiet
section
set_option linter.unusedSimpArgs false
set_option linter.unusedVariables false
set_option maxRecDepth 100000
namespace Go.Proofs.YtlpljedacohngaaGreatDoor
open Go.RowKit Go.Maps

/-- Words on what operations leave, by a list. -/
def LV (fs : List (Value → World → Prop)) (i : Nat) (v : Nat → Value) (w : World) : Prop := match fs[i]? with
  | some F => F (v i) w
  | none => True
def StV (F : Value → World → Prop) : Prop := ∀ u w w', F u w → Below w.heap.size w w' → F u w'
theorem LV.loc {fs : List (Value → World → Prop)} : ∀ i v j x w, LV fs i v w → j ≠ i → LV fs i (setV v j x) w := by
  intro i v j x w h hj
  unfold LV at h ⊢
  split
  · rename_i F he
    rw [he] at h
    show F (setV v j x i) w
    unfold setV
    rw [if_neg (Ne.symm hj)]
    exact h
  · trivial
theorem LV.st {fs : List (Value → World → Prop)} (hf : ∀ F ∈ fs, StV F) : ∀ i k v w w', k ≠ i → LV fs i v w → Below w.heap.size w w' → LV fs i v w' := by
  intro i k v w w' _ h hb
  unfold LV at h ⊢
  cases he : fs[i]? with
  | none => trivial
  | some F =>
    rw [he] at h
    exact hf F (List.mem_of_getElem? he) _ _ _ h hb
def isV (x : Value) : Value → World → Prop := fun u _ => u = x
theorem isV.st (x : Value) : StV (isV x) := fun _ _ _ h _ => h
def quickB (ds : List (Option Tmp)) (n : Nat) : Bool := apartR ds && ds.all fun d => match d with | some t => decide (t < n) | none => true
/-- No two operations write one slot, and each slot is there. -/
structure QuickR (ds : List (Option Tmp)) (a0 : Act) : Prop where
  ap : apartR ds = true
  lt : ∀ (j : Nat) (t : Tmp), ds[j]? = some (some t) → t < a0.tmps.size
theorem QuickR.of {ds : List (Option Tmp)} {a0 : Act} (h : quickB ds a0.tmps.size = true) : QuickR ds a0 := by
  unfold quickB at h
  rw [Bool.and_eq_true] at h
  refine ⟨h.1, fun j t hj => ?_⟩
  have := List.all_eq_true.1 h.2 (some t) (List.mem_of_getElem? hj)
  simpa using this
section
variable {P : Program} {ops : Array Oper} {Q : Exit → Act → World → Prop} {ds : List (Option Tmp)} {a0 : Act} {o : Oper} {v : Nat → Value} {j : Nat} {t : Tmp} {x : Value}
theorem QuickR.at_ (hq : QuickR ds a0) (hj : ds[j]? = some (some t)) (hv : v j = x) : (fillR ds v 0 a0).eval (.tmp t) = x := fill_at hq.ap hj (hq.lt j t hj) hv
theorem QuickR.yes {b : Bool} (hq : QuickR ds a0) (hg : o.guard = some (j, b)) (ho : (ops[j]?).bind (·.dst) = some t) (hj : ds[j]? = some (some t)) (hv : v j = .bool b) : Region.wanted o (yielded ops (fillR ds v 0 a0).tmps) = true := wanted_yes hg ho hq.ap hj (hq.lt j t hj) hv
theorem QuickR.no {b c : Bool} (hq : QuickR ds a0) (hg : o.guard = some (j, b)) (ho : (ops[j]?).bind (·.dst) = some t) (hj : ds[j]? = some (some t)) (hv : v j = .bool c) (hc : (c == b) = false) : Region.wanted o (yielded ops (fillR ds v 0 a0).tmps) = false := wanted_no hg ho hq.ap hj (hq.lt j t hj) hv hc
theorem QuickR.un {b : Bool} (hq : QuickR ds a0) (hg : o.guard = some (j, b)) (ho : (ops[j]?).bind (·.dst) = some t) (hj : ds[j]? = some (some t)) (hv : v j = undef) : Region.wanted o (yielded ops (fillR ds v 0 a0).tmps) = false := wanted_un hg ho hq.ap hj (hq.lt j t hj) hv
theorem wp_region_quick (ds : List (Option Tmp)) (fs : List (Value → World → Prop)) (n : Nat) {id : Nat} {w : World} (hm : P.follows .mixedOrders = true)
    (hn : ops.size = n) (hds : ops.toList.map (·.dst) = ds) (hq : quickB ds a0.tmps.size = true) (hl : lexA .any ops = true) (hst : ∀ F ∈ fs, StV F)
    (hstep : QuickR ds a0 → ∀ i, i < n → StepL P .any ops Q ds (LV fs) (fun wx => Below w.heap.size w wx) (fun _ a b => Below a.heap.size a b) a0 i)
    (hfin : ∀ (v : Nat → Value) (wx : World), Below w.heap.size w wx → (∀ i, i < n → LV fs i v wx) → Q .normal (fillR ds v 0 a0) wx) : (Code.region id ops true).wp P Q a0 w :=
  wp_region_lookA ds (LV fs) (fun _ => []) (fun wx => Below w.heap.size w wx) (fun _ a b => Below a.heap.size a b) n hm hn hds (QuickR.of hq).ap hl ⟨rfl, rfl, rfl, Nat.le_refl _, fun _ _ => rfl⟩ (fun i v j x w h hj _ => LV.loc i v j x w h hj)
    (fun i hi => by unfold waitsR; subst hn; rw [Array.getElem?_eq_getElem hi]; rfl) (LV.st hst) (hstep (QuickR.of hq)) hfin
end
section
variable {P : Program} {ops : Array Oper} {Q : Exit → Act → World → Prop} {md : Region.Mode}
/-! The same as wp_region_tail, where the last operations may write slots that the others read. -/
theorem wpAny_tailP (ds : List (Option Tmp)) (L : Nat) (hds : (ops.toList.take L).map (·.dst) = ds) (hap : apartR ds = true) (hl : lexR ops = true)
    (V : Nat → (Nat → Value) → World → Prop) (R : World → Prop) (Rel : Nat → World → World → Prop) (a0 : Act) (hL : L < ops.size) (ht : tailR md ops L = true)
    (hloc : ∀ i v j x w, V i v w → j ≠ i → V i (setV v j x) w)
    (hst : ∀ i k v w w', k ≠ i → V i v w → Rel k w w' → V i v w')
    (hstep : ∀ i, i < L → StepL P md ops Q ds V R Rel a0 i)
    (htail : ∀ v w, R w → (∀ i, i < L → V i v w) → wpList P ops Q (ops.toList.drop L) (fillR ds v 0 a0) w) :
    ∀ (fuel : Nat) (listed : Array Bool) (v : Nat → Value) (w : World), listed.size = ops.size → leftR listed ≤ fuel → ClosedR md ops listed → (∀ j, L ≤ j → listed.getD j false = false) → R w → (∀ i, listed.getD i false = true → V i v w) →
      wpAny P md ops Q fuel listed (fillR ds v 0 a0) w := by
  intro fuel
  induction fuel with
  | zero =>
    intro listed v w hs hf hc h2 hR hV
    have h0 : listed.getD L true = false := by rw [getD_tf (by omega)]; exact h2 L (Nat.le_refl _)
    have := leftR_set h0
    omega
  | succ fuel ih =>
    intro listed v w hs hf hc h2 hR hV
    refine ⟨fun hr => ?_, fun i hi => ?_⟩
    · have := all_listed hl hs hr L hL
      rw [h2 L (Nat.le_refl _)] at this
      cases this
    obtain ⟨h0, o, ho, hall⟩ := mem_ready.1 hi
    have hil := (Array.getElem?_eq_some_iff.1 ho).1
    by_cases hiL : i < L
    · have hd : ds[i]? = some o.dst := by
        rw [← hds, List.getElem?_map, List.getElem?_take_of_lt hiL]
        have : ops.toList[i]? = some o := by simpa using ho
        rw [this]
        rfl
      refine wpOp_step ho fun K hK => hstep i hiL o ho v w hR (fun e he hb => hV e.on (hall e he hb)) K ?_
      intro x w' hR' hrel hV'
      refine hK _ _ ?_
      rw [put_fill ds hap v 0 a0 i o.dst x hd, Nat.zero_add]
      refine ih _ _ _ (by simpa using hs) (by have := leftR_set h0; omega) (closed_set hc ho hall) (fun j hj => by rw [getD_set_ne false (by omega)]; exact h2 j hj) hR' fun j hj => ?_
      by_cases hji : j = i
      · subst hji
        exact hV'
      · have hlj : listed.getD j false = true := by rw [getD_set_ne false (Ne.symm hji)] at hj; exact hj
        exact hloc j v i x w' (hst j i _ _ _ (Ne.symm hji) (hV j hlj) hrel) (Ne.symm hji)
    · have hpre := tail_ready ht hc (by omega) ho hall
      have hiL' : i = L := by
        rcases Nat.lt_or_ge L i with h | h
        · have := hpre L h
          rw [h2 L (Nat.le_refl _)] at this
          cases this
        · omega
      subst hiL'
      have hfull : wpAny P md ops Q (fuel + 1) listed (fillR ds v 0 a0) w := by
        have h3 : ops.size - i ≤ fuel + 1 := by
          have : ops.size - i ≤ leftR listed := by
            unfold leftR
            have e : listed.toList = listed.toList.take i ++ listed.toList.drop i := (List.take_append_drop _ _).symm
            rw [e, List.countP_append]
            have hall' : (listed.toList.drop i).countP (fun b => !b) = (listed.toList.drop i).length := by
              rw [List.countP_eq_length]
              intro b hb
              obtain ⟨k, hk, rfl⟩ := List.getElem_of_mem hb
              rw [List.getElem_drop]
              have hk' : i + k < listed.size := by simp at hk; omega
              have := h2 (i + k) (by omega)
              simp [hk'] at this
              simpa using this
            rw [hall']
            simp
            omega
          omega
        exact wpAny_list hl ht (fuel + 1) listed i _ w hs (Nat.le_refl _) (by omega) hpre h2 h3 (htail v w hR fun j hj => hV j (hpre j hj))
      exact hfull.2 i hi
theorem wpAny_tailP0 (ds : List (Option Tmp)) (V : Nat → (Nat → Value) → World → Prop) (R : World → Prop) (Rel : Nat → World → World → Prop) (L m : Nat) {a0 : Act} {w : World}
    (hm : ops.size = m) (hL : L < m) (hds : (ops.toList.take L).map (·.dst) = ds) (hap : apartR ds = true) (hl : lexR ops = true) (ht : tailR md ops L = true) (hR : R w)
    (hloc : ∀ i v j x w, V i v w → j ≠ i → V i (setV v j x) w)
    (hst : ∀ i k v w w', k ≠ i → V i v w → Rel k w w' → V i v w')
    (hstep : ∀ i, i < L → StepL P md ops Q ds V R Rel a0 i)
    (htail : ∀ v w, R w → (∀ i, i < L → V i v w) → wpList P ops Q (ops.toList.drop L) (fillR ds v 0 a0) w) : wpAny P md ops Q ops.size (Array.replicate ops.size false) a0 w := by
  subst hm
  have hfill : fillR ds (fun i => match ds[i]? with | some (some t) => a0.tmps.getD t undef | _ => undef) 0 a0 = a0 := by
    refine fill_start a0 ds 0 _ (fun i t ht => ?_)
    simp only [Nat.zero_add, ht]
  have hno : ∀ i, (Array.replicate ops.size false).getD i false = false := fun i => by
    rcases Nat.lt_or_ge i ops.size with h' | h'
    · simp [h']
    · simp [Nat.not_lt.2 h']
  have := wpAny_tailP (P := P) (Q := Q) (md := md) ds L hds hap hl V R Rel a0 hL ht hloc hst hstep htail ops.size (Array.replicate ops.size false) (fun i => match ds[i]? with | some (some t) => a0.tmps.getD t undef | _ => undef) w (by simp) ?_ (fun i hi => by rw [hno i] at hi; cases hi) (fun j _ => hno j) hR ?_
  · rw [hfill] at this
    exact this
  · unfold leftR
    refine Nat.le_trans List.countP_le_length ?_
    simp
  · intro i hi
    rw [hno i] at hi
    cases hi
theorem wp_region_quickT {a0 : Act} (ds : List (Option Tmp)) (fs : List (Value → World → Prop)) (L n : Nat) {id : Nat} {w : World} (hm : P.follows .mixedOrders = true)
    (hn : ops.size = n) (hL : decide (L < n) = true) (hds : (ops.toList.take L).map (·.dst) = ds) (hq : quickB ds a0.tmps.size = true) (hl : lexR ops = true) (ht : tailR .any ops L = true) (hst : ∀ F ∈ fs, StV F)
    (hstep : QuickR ds a0 → ∀ i, i < L → StepL P .any ops Q ds (LV fs) (fun wx => Below w.heap.size w wx) (fun _ a b => Below a.heap.size a b) a0 i)
    (htail : ∀ (v : Nat → Value) (wx : World), Below w.heap.size w wx → (∀ i, i < L → LV fs i v wx) → wpList P ops Q (ops.toList.drop L) (fillR ds v 0 a0) wx) : (Code.region id ops true).wp P Q a0 w :=
  wp_region_any hm (wpAny_tailP0 ds (LV fs) (fun wx => Below w.heap.size w wx) (fun _ a b => Below a.heap.size a b) L n hn (of_decide_eq_true hL) hds (QuickR.of hq).ap hl ht ⟨rfl, rfl, rfl, Nat.le_refl _, fun _ _ => rfl⟩ (fun i v j x w h hj => LV.loc i v j x w h hj) (LV.st hst) (hstep (QuickR.of hq)) htail)
end
section
variable {ρ : Operand → Value} {x0 x1 x2 x3 : Operand} {y0 y1 y2 y3 : Value} {k0 k1 k2 k3 : Nat}
theorem args_1 (h0 : ρ x0 = y0) : (#[x0] : Array Operand).map ρ = #[y0] := by simp [h0]
theorem args_2 (h0 : ρ x0 = y0) (h1 : ρ x1 = y1) : (#[x0, x1] : Array Operand).map ρ = #[y0, y1] := by simp [h0, h1]
theorem args_3 (h0 : ρ x0 = y0) (h1 : ρ x1 = y1) (h2 : ρ x2 = y2) : (#[x0, x1, x2] : Array Operand).map ρ = #[y0, y1, y2] := by simp [h0, h1, h2]
theorem args_4 (h0 : ρ x0 = y0) (h1 : ρ x1 = y1) (h2 : ρ x2 = y2) (h3 : ρ x3 = y3) : (#[x0, x1, x2, x3] : Array Operand).map ρ = #[y0, y1, y2, y3] := by simp [h0, h1, h2, h3]
theorem pairs_0 : (#[] : Array (Nat × Operand)).map (fun (i, x) => (i, ρ x)) = #[] := by simp
theorem pairs_1 (h0 : ρ x0 = y0) : (#[(k0, x0)] : Array (Nat × Operand)).map (fun (i, x) => (i, ρ x)) = #[(k0, y0)] := by simp [h0]
theorem pairs_2 (h0 : ρ x0 = y0) (h1 : ρ x1 = y1) : (#[(k0, x0), (k1, x1)] : Array (Nat × Operand)).map (fun (i, x) => (i, ρ x)) = #[(k0, y0), (k1, y1)] := by simp [h0, h1]
theorem pairs_3 (h0 : ρ x0 = y0) (h1 : ρ x1 = y1) (h2 : ρ x2 = y2) : (#[(k0, x0), (k1, x1), (k2, x2)] : Array (Nat × Operand)).map (fun (i, x) => (i, ρ x)) = #[(k0, y0), (k1, y1), (k2, y2)] := by simp [h0, h1, h2]
end
section
variable {P : Program} {ρ : Operand → Value} {o : Oper} {w : World}
/-- 'append(nothing, x..)', of something, onto a slice without room. -/
theorem x_app_new {s x : Operand} {t e : TypeId} {z : Value} {size bytes : Nat} (ho : o.op = .call { callee := .builtin .append, args := #[s, x], argTypes := #[t, t] }) (ht : P.underlying t = some (.slice e)) (hi : (P.info? e).map (fun i => (i.zero, i.size, i.bytes)) = some (some z, size, bytes))
    {R : Option Addr} (hs : ρ s = .slice R 0 0) {g off m c : Nat} (hx : ρ x = .slice (some ⟨g, off, none⟩) m c) (news : List Value) (hl : news.length = m * size) (hnews : ∀ (j : Nat) u, news[j]? = some u → w.cell? ⟨g, off + j, none⟩ = some u) (h1 : ∀ u ∈ news, u.oneCell' = true) (hm : 0 < m) (hmx : m ≤ 1000000) (hb : bytes ≤ 1000) :
    ∃ cap es, (execOp ρ o).run P w = .ok (.value (.slice (some ⟨w.heap.size, 0, none⟩) m cap)) (w.drew.alloc (.cells (news ++ es).toArray e)) ∧ m ≤ cap ∧ cap ≤ maxLen := by
  obtain ⟨i, i1, i2, i3, i4⟩ := info_parts hi
  subst i3
  have hsrc := Src.ofSlice (P := P) w (tx := t) ht ⟨g, off, none⟩ m c news hl (fun j u hu => by rw [addr_add]; exact hnews j u hu) h1
  have hr := run_append_grow_src (P := P) w t t o.type e i z ht i1 i2 R 0 0 [] (by cases R <;> simp [Builtin.firstCells, loadCells, loadCellsFrom]) (.slice (some ⟨g, off, none⟩) m c) m news hsrc (by omega) (by omega) (by
    rw [Nat.zero_add, nextslicecap_zero hm, i4]
    exact Nat.le_trans (Nat.mul_le_mul hmx hb) (by omega))
  rw [Nat.zero_add] at hr
  refine ⟨grownCap w m 0 e, (Builtin.zeroCells z.cells (grownCap w m 0 e - m)).toList, ?_, grownCap_ge w m 0 e, grownCap_le_maxLen w m 0 e (by unfold maxLen; omega)⟩
  unfold execOp resolve
  rw [ho]
  simp only [invoke, builtin, Sem.run_bind, Sem.run_pure, Result.andThen_ok, List.map_toArray, List.map_cons, List.map_nil, hs, hx, hr]
  have e1 : (([] ++ news).toArray ++ Builtin.zeroCells z.cells (grownCap w m 0 e - m)) = (news ++ (Builtin.zeroCells z.cells (grownCap w m 0 e - m)).toList).toArray := by
    apply Array.ext'
    simp
  rw [e1]
/-- .. of nothing. -/
theorem x_app_none {s x : Operand} {t e : TypeId} {i : TypeInfo} (ho : o.op = .call { callee := .builtin .append, args := #[s, x], argTypes := #[t, t] }) (ht : P.underlying t = some (.slice e)) (hi : P.info? e = some i)
    {R S : Option Addr} {q c : Nat} (hs : ρ s = .slice R 0 q) (hx : ρ x = .slice S 0 c) : (execOp ρ o).run P w = .ok (.value (.slice R 0 q)) w := by
  have hrun := run_append_nothing (P := P) w t t o.type e i ht hi R 0 q (Nat.zero_le _) (.slice S 0 c)
    ⟨.inl ⟨_, ht⟩, fun w' => by cases S <;> simp [Builtin.lenOf], by cases S <;> simp [Builtin.firstCells, loadCells, loadCellsFrom], by cases S <;> simp [Builtin.firstCells, loadCells, loadCellsFrom], by simp, by simp⟩
  unfold execOp resolve
  simp only [ho, invoke, builtin, Sem.run_bind, Sem.run_pure, Result.andThen_ok, List.map_toArray, List.map_cons, List.map_nil, hs, hx, hrun]
end
section
variable {P : Program} {ρ : Operand → Value} {o : Oper} {w : World} {G : Value → World → Prop}
theorem xe_app_new {s x : Operand} {t e : TypeId} {z : Value} {size bytes : Nat} (ho : o.op = .call { callee := .builtin .append, args := #[s, x], argTypes := #[t, t] }) (ht : P.underlying t = some (.slice e)) (hi : (P.info? e).map (fun i => (i.zero, i.size, i.bytes)) = some (some z, size, bytes))
    {R : Option Addr} (hs : ρ s = .slice R 0 0) {g off m c : Nat} (hx : ρ x = .slice (some ⟨g, off, none⟩) m c) (news : List Value) (hl : news.length = m * size) (hnews : ∀ (j : Nat) u, news[j]? = some u → w.cell? ⟨g, off + j, none⟩ = some u) (h1 : ∀ u ∈ news, u.oneCell' = true) (hm : 0 < m) (hmx : m ≤ 1000000) (hb : bytes ≤ 1000)
    (hG : ∀ cap es, m ≤ cap → cap ≤ maxLen → G (.slice (some ⟨w.heap.size, 0, none⟩) m cap) (w.drew.alloc (.cells (news ++ es).toArray e))) : ∃ y w', (execOp ρ o).run P w = .ok (.value y) w' ∧ G y w' := by
  obtain ⟨cap, es, hr, h2, h3⟩ := x_app_new ho ht hi hs hx news hl hnews h1 hm hmx hb
  exact ⟨_, _, hr, hG cap es h2 h3⟩
theorem xe_ex {y : Value} {w' : World} (hr : (execOp ρ o).run P w = .ok (.value y) w') (hG : G y w') : ∃ y w', (execOp ρ o).run P w = .ok (.value y) w' ∧ G y w' := ⟨_, _, hr, hG⟩
end
theorem drew_alloc_below (w : World) (ob : Obj) : Below w.heap.size w (w.drew.alloc ob) := (show Below w.heap.size w w.drew from ⟨rfl, rfl, rfl, Nat.le_refl _, fun _ _ => rfl⟩).alloc (Nat.le_refl _) ob
/-- A slice without elements, in a block of one's own. -/
def noV (t : TypeId) (b0 : Nat) : Value → World → Prop := fun u w => ∃ p, u = .slice (some ⟨p, 0, none⟩) 0 0 ∧ b0 ≤ p ∧ Blk w p t []
theorem noV.st (t : TypeId) (b0 : Nat) : StV (noV t b0) := fun _ _ _ ⟨p, h1, h2, h3⟩ hb => ⟨p, h1, h2, h3.below hb h3.lt⟩
/-- A slice of so many elements, whose cells are known. -/
def rowV' (t : TypeId) (b0 m : Nat) (cs : List Value) : Value → World → Prop := fun u w => ∃ g cap es, u = .slice (some ⟨g, 0, none⟩) m cap ∧ b0 ≤ g ∧ m ≤ cap ∧ cap ≤ maxLen ∧ Blk w g t (cs ++ es)
theorem rowV'.st (t : TypeId) (b0 m : Nat) (cs : List Value) : StV (rowV' t b0 m cs) := fun _ _ _ ⟨g, c, es, h1, h2, h3, h4, h5⟩ hb => ⟨g, c, es, h1, h2, h3, h4, h5.below hb h5.lt⟩
section
variable {P : Program} {ρ : Operand → Value} {o : Oper} {w : World} {G : Value → World → Prop}
/-- 'append(own, x..)'. -/
theorem xe_app_own {s x : Operand} {t e base : Nat} {z : Value} {size bytes : Nat} (ho : o.op = .call { callee := .builtin .append, args := #[s, x], argTypes := #[t, t] }) (ht : P.underlying t = some (.slice e)) (hi : (P.info? e).map (fun i => (i.zero, i.size, i.bytes)) = some (some z, size, bytes)) (hzs : z.cells.size = size) (hsz : 0 < size)
    {v : Value} {n : Nat} {xs : List Value} (hs : ρ s = v) (hown : w.ownsRow base e size v n xs) {g off m c : Nat} (hx : ρ x = .slice (some ⟨g, off, none⟩) m c) (news : List Value) (hl : news.length = m * size) (hnews : ∀ (j : Nat) u, news[j]? = some u → w.cell? ⟨g, off + j, none⟩ = some u) (h1 : ∀ u ∈ news, u.oneCell' = true) (hm : 0 < m) (hmx : n + m ≤ 1000000) (hb : bytes ≤ 1000) (hbase : base ≤ w.heap.size)
    (hG : ∀ g' cap w', w'.ownsRow base e size (.slice (some ⟨g', 0, none⟩) (n + m) cap) (n + m) (xs ++ news) → Only v.ownBlock.toList w w' → (v.ownBlock = some g' ∨ g' = w.heap.size) → G (.slice (some ⟨g', 0, none⟩) (n + m) cap) w') : ∃ y w', (execOp ρ o).run P w = .ok (.value y) w' ∧ G y w' := by
  obtain ⟨i, i1, i2, i3, i4⟩ := info_parts hi
  obtain ⟨g', cap, w', hr, g1, g2, g3, g4⟩ := run_append_lies (P := P) w t o.type base e i z size bytes ht i1 i2 i3 i4 hzs hsz v n xs hown ⟨g, off, none⟩ m c news hl (fun j u hu => by rw [addr_add]; exact hnews j u hu) h1 hm (by unfold maxLen; omega) (Nat.le_trans (Nat.mul_le_mul hmx hb) (by omega)) hbase _ rfl
  refine ⟨_, w', ?_, hG g' cap w' g1 ((Only.refl _ w).grown g2 (fun k hk => .inl (by rw [hk]; simp))) g3⟩
  unfold execOp resolve
  simp only [ho, invoke, builtin, Sem.run_bind, Sem.run_pure, Result.andThen_ok, List.map_toArray, List.map_cons, List.map_nil, hs, hx, hr]
/-- A value of one cell into a block that is known. -/
theorem r_store1 {t b x tt : Nat} {v : Value} {cs : List Value} (hi : (P.info? t).map (·.size) = some 1) (h1 : v.oneCell' = true) (hv : v.cells = #[v]) (hb : Blk w b tt cs) (hx : x < cs.length) : (Instr.storeAt t (.pointer (some ⟨b, x, none⟩)) v).run P w = .ok () (w.setCells b x [v]) := by
  have hst := run_storeCells_cells (P := P) b x [v] 0 w (fun j hj => by
    simp at hj
    subst hj
    show (w.cell? ⟨b, x, none⟩).isSome = true
    rw [hb.cell, List.getElem?_eq_getElem hx]
    rfl) (fun j hj => hb.frozen _) (fun u hu => by simp at hu; subst hu; exact h1)
  rw [Nat.add_zero] at hst
  cases hq : P.info? t with
  | none => simp [hq] at hi
  | some i =>
    have hs : i.size = 1 := by simpa [hq] using hi
    simp only [Instr.storeAt, Instr.sureAddr, Sem.run_bind, Sem.run_pure, Result.andThen_ok, storeVar, sizeOf, typeInfo, run_program, hq, hs, hv]
    simp [hst]
end
theorem over_one {cs : List Value} {x : Nat} {v : Value} (h : x < cs.length) : over cs x [v] = cs.set x v := by
  unfold over
  rw [show [v].length = 1 from rfl, List.set_eq_take_append_cons_drop, if_pos h, List.append_assoc]
  rfl
theorem store_only (w : World) (b x : Nat) (v : Value) : Only [b] w (w.setCells b x [v]) := Only.setCells [v] b x (Only.refl _ _) (.inl (by simp))
theorem store_blk {w : World} {b tt x : Nat} {cs : List Value} {v : Value} (h : Blk w b tt cs) (hx : x < cs.length) : Blk (w.setCells b x [v]) b tt (cs.set x v) := by
  rw [← over_one hx]
  exact h.setCells [v] x (by simp; omega)
/-- A row of one's own, in no block of these. -/
def ownW (N e n : Nat) (xs : List Value) (bad : List Nat) : Value → World → Prop := fun u w => w.ownsRow N e 1 u n xs ∧ ∀ k, u.ownBlock = some k → k ∉ bad
theorem ownW.only {N e n : Nat} {xs : List Value} {bad S : List Nat} {u : Value} {w w' : World} (h : ownW N e n xs bad u w) (ho : Only S w w') (hS : ∀ k ∈ S, k < w.heap.size → k ∈ bad) : ownW N e n xs bad u w' := by
  exact ⟨ownsRow_only h.1 ho (fun k hk hm => h.2 k hk (hS k hm (h.1.lt k hk).2)), h.2⟩
/-- The rule for a region with a chain, by words and by the blocks that each operation may turn. -/
theorem wp_region_chainQ {P : Program} {ops : Array Oper} {Q : Exit → Act → World → Prop} {a0 : Act} (chain : List Nat) (ds : List (Option Tmp)) (fs : List (Value → World → Prop)) (X : Nat → List Nat) (R : Nat → World → Prop) (n : Nat) {id : Nat} {w : World} (hm : P.follows .mixedOrders = true)
    (hn : ops.size = n) (hds : ops.toList.map (·.dst) = ds) (hq : quickB ds a0.tmps.size = true) (hl : lexA .any ops = true) (ho : ordR .any ops chain = true) (hR : R 0 w.drew)
    (hst : ∀ i k v w w', k ≠ i → LV fs i v w → Only (X k) w w' → LV fs i v w')
    (hstep : QuickR ds a0 → ∀ i, i < n → StepP P .any ops Q chain ds (LV fs) R (fun k a b => Only (X k) a b) a0 i)
    (hfin : ∀ (v : Nat → Value) (wx : World), R chain.length wx → (∀ i, i < n → LV fs i v wx) → Q .normal (fillR ds v 0 a0) wx) : (Code.region id ops true).wp P Q a0 w :=
  wp_region_chain chain ds (LV fs) R (fun k a b => Only (X k) a b) n hm hn hds (QuickR.of hq).ap hl ho hR (fun i v j x w h hj => LV.loc i v j x w h hj) hst (hstep (QuickR.of hq)) hfin
theorem own_slice {w : World} {N e s n : Nat} {v : Value} {xs : List Value} (h : w.ownsRow N e s v n xs) : ∃ P c, v = .slice P n c := by
  rcases h.2 with ⟨rfl, rfl⟩ | ⟨g, cap, cur, rfl, _⟩
  · exact ⟨_, _, rfl⟩
  · exact ⟨_, _, rfl⟩
theorem range_two {w : World} {g o : Nat} {x0 x1 : Value} (h0 : w.cell? ⟨g, o, none⟩ = some x0) (h1 : w.cell? ⟨g, o + 1, none⟩ = some x1) : w.rangeAt g o [x0, x1] := by
  intro j v hj
  match j, hj with
  | 0, hj => cases hj; exact h0
  | 1, hj => cases hj; exact h1
  | j + 2, hj => simp at hj
end Go.Proofs.YtlpljedacohngaaGreatDoor
end

/-
  The small functions of words: each is plain arithmetic. No condition.
-/

section
set_option maxRecDepth 100000
set_option linter.unusedSimpArgs false
set_option linter.unusedVariables false
namespace Go.Proofs.YtlpljedacohngaaGreatDoor
open Go.RowKit

attribute [local go_sem] add_u32 xor_u32 and_u32 or_u32 not_u32 shl_u32 shr_u32 div_u32 div_8 div_3 div_16 div_10 div_24

theorem rot_any (w : World) (x : B32) (k : Int) (s : Nat) (hk : bits .and .u64 (IntKind.u64.wrap k) 31 = s) (hs : s ≤ 31) : Calls Tryz.prog 105 #[.int .u32 (nw x), .int .i64 k] w fun e w' => e = .returned (.int .u32 (nw ((x <<< s) ||| (x >>> (32 - s))))) ∧ w = w' := by
  have hx := nw_bound x
  go_enter Tryz.func105, Tryz.ntmps105
  go_wp2
  go_ret
  exact ⟨rfl, rfl⟩

/-- A turn to the right by k. -/
theorem rot_right (w : World) (x : B32) (k : Nat) (hk : 1 ≤ k ∧ k ≤ 31) : Calls Tryz.prog 105 #[.int .u32 (nw x), .int .i64 (-(k : Int))] w fun e w' => e = .returned (.int .u32 (nw (rr x k))) ∧ w = w' := by
  have h : ∀ k : Nat, k < 32 → 1 ≤ k → bits .and .u64 (IntKind.u64.wrap (-(k : Int))) 31 = ((32 - k : Nat) : Int) := by decide +kernel
  refine (rot_any w x (-(k : Int)) (32 - k) (h k (by omega) hk.1) (by omega)).mono ?_
  rintro e w' ⟨rfl, rfl⟩
  exact ⟨by rw [show 32 - (32 - k) = k by omega, ← rr_eq], rfl⟩

theorem chosen_any (w : World) (x y z : B32) : Calls Tryz.prog 97 #[.int .u32 (nw x), .int .u32 (nw y), .int .u32 (nw z)] w fun e w' => e = .returned (.int .u32 (nw ((x &&& y) ^^^ (~~~x &&& z)))) ∧ w = w' := by
  go_enter Tryz.func97, Tryz.ntmps97
  go_wp2
  go_ret
  exact ⟨rfl, rfl⟩

theorem most_any (w : World) (x y z : B32) : Calls Tryz.prog 98 #[.int .u32 (nw x), .int .u32 (nw y), .int .u32 (nw z)] w fun e w' => e = .returned (.int .u32 (nw ((x &&& y) ^^^ (x &&& z) ^^^ (y &&& z)))) ∧ w = w' := by
  go_enter Tryz.func98, Tryz.ntmps98
  go_wp2
  go_ret
  exact ⟨rfl, rfl⟩

theorem around_any (w : World) (x : B32) (a b c : Nat) (ha : 1 ≤ a ∧ a ≤ 31) (hb : 1 ≤ b ∧ b ≤ 31) (hc : 1 ≤ c ∧ c ≤ 31) : Calls Tryz.prog 96 #[.int .u32 (nw x), .int .i64 a, .int .i64 b, .int .i64 c] w fun e w' => e = .returned (.int .u32 (nw (rr x a ^^^ rr x b ^^^ rr x c))) ∧ w = w' := by
  go_enter Tryz.func96, Tryz.ntmps96
  go_wp2_with (go_at_call 105; refine (rot_right _ x _ (by assumption)).mono ?_; rintro e w' ⟨rfl, rfl⟩)
  go_ret
  exact ⟨rfl, rfl⟩

end Go.Proofs.YtlpljedacohngaaGreatDoor
end

/-
  spread: a block's words. Conditions: 64 bytes, each cell there.
-/

section
set_option maxRecDepth 100000
set_option linter.unusedSimpArgs false
set_option linter.unusedVariables false
namespace Go.Proofs.YtlpljedacohngaaGreatDoor
open Go.RowKit

attribute [local go_sem] add_u32 xor_u32 and_u32 or_u32 not_u32 shl_u32 shr_u32 div_u32 div_8 div_3 div_16 div_10 div_24

theorem blk_two (w : World) (t u : TypeId) (cs ds : List Value) : Blk ((w.alloc (.cells cs.toArray t)).alloc (.cells ds.toArray u)) (w.heap.size + 1) u ds := by
  have := Blk.new (w.alloc (.cells cs.toArray t)) u ds
  simpa using this

theorem getD_append_left {α : Type} {l m : List α} {i : Nat} {d : α} (h : i < l.length) : (l ++ m).getD i d = l.getD i d := by
  simp [List.getD_eq_getElem?_getD, List.getElem?_append_left h]

theorem word4_cells (b0 b1 b2 b3 : B8) : bits .or .u32 (bits .or .u32 (bits .or .u32 (nb b0 * 16777216) (nb b1 * 65536)) (nb b2 * 256)) (nb b3) = nw (up b0 24 ||| up b1 16 ||| up b2 8 ||| b3.setWidth 32) := by
  have h0 := nb_bound b0
  have h1 := nb_bound b1
  have h2 := nb_bound b2
  have wr : ∀ n : Int, 0 ≤ n → n < 4294967296 → IntKind.u32.wrap n = n := by
    intro n h h'
    simp [IntKind.wrap, IntKind.signed, IntKind.bits]
    omega
  have e0 : nb b0 * 16777216 = nw (up b0 24) := by rw [← up_u32]; exact (wr _ (by omega) (by omega)).symm
  have e1 : nb b1 * 65536 = nw (up b1 16) := by rw [← up_u32]; exact (wr _ (by omega) (by omega)).symm
  have e2 : nb b2 * 256 = nw (up b2 8) := by rw [← up_u32]; exact (wr _ (by omega) (by omega)).symm
  rw [e0, e1, e2, wide_u32 b3, or_u32, or_u32, or_u32]

theorem own_step {w : World} {B k : Nat} {t : TypeId} {bs : List B8} (h : Blk w B t (part (own16 bs k))) (hk : k < 16) (b0 b1 b2 b3 : B8) (e : word4 bs k = up b0 24 ||| up b1 16 ||| up b2 8 ||| b3.setWidth 32) :
    Blk (w.drew.setCell ⟨B, k, none⟩ (.int .u32 (bits .or .u32 (bits .or .u32 (bits .or .u32 (nb b0 * 16777216) (nb b1 * 65536)) (nb b2 * 256)) (nb b3)))) B t (part (own16 bs (k + 1))) := by
  have hlk := own16_length bs k
  have hps := part_set (l := own16 bs k) (by omega) (word4 bs k)
  rw [hlk, e] at hps
  have := h.drew.set_ k (.int .u32 (nw (up b0 24 ||| up b1 16 ||| up b2 8 ||| b3.setWidth 32)))
  rw [hps] at this
  rw [word4_cells, own16, e]
  exact this
theorem more_step {w : World} {B k : Nat} {t : TypeId} {l : List B32} (h : Blk w B t (part (more l k))) (hl : l.length = 16) (hk : k < 48) (x16 x15 x7 x2 : B32) (e : nextW (more l k) = x16 + far x15 + x7 + near x2) :
    Blk (w.setCell ⟨B, 16 + k, none⟩ (.int .u32 (nw (x16 + (rr x15 7 ^^^ rr x15 18 ^^^ x15 >>> 3) + x7 + (rr x2 17 ^^^ rr x2 19 ^^^ x2 >>> 10))))).drew.drew B t (part (more l (k + 1))) := by
  have hlk := more_length l k
  rw [hl] at hlk
  have hps := part_set (l := more l k) (by omega) (nextW (more l k))
  rw [hlk] at hps
  have := (h.set_ (16 + k) (.int .u32 (nw (nextW (more l k))))).drew.drew
  rw [hps] at this
  rw [e] at this
  rw [more, e]
  exact this

theorem rot_7 (w : World) (x : B32) : Calls Tryz.prog 105 #[.int .u32 (nw x), .int .i64 (-7)] w fun e w' => e = .returned (.int .u32 (nw (rr x 7))) ∧ w = w' := rot_right w x 7 (by omega)
theorem rot_18 (w : World) (x : B32) : Calls Tryz.prog 105 #[.int .u32 (nw x), .int .i64 (-18)] w fun e w' => e = .returned (.int .u32 (nw (rr x 18))) ∧ w = w' := rot_right w x 18 (by omega)
theorem rot_17 (w : World) (x : B32) : Calls Tryz.prog 105 #[.int .u32 (nw x), .int .i64 (-17)] w fun e w' => e = .returned (.int .u32 (nw (rr x 17))) ∧ w = w' := rot_right w x 17 (by omega)
theorem rot_19 (w : World) (x : B32) : Calls Tryz.prog 105 #[.int .u32 (nw x), .int .i64 (-19)] w fun e w' => e = .returned (.int .u32 (nw (rr x 19))) ∧ w = w' := rot_right w x 19 (by omega)

set_option maxHeartbeats 1000000 in
set_option maxRecDepth 100000 in
theorem spread_any (w : World) (g o c : Nat) (bs : List B8) (hcells : ∀ j, j < 64 → w.cell? ⟨g, o + j, none⟩ = some (.int .u8 (nb (bs.getD j 0)))) :
    Calls Tryz.prog 95 #[.slice (some ⟨g, o, none⟩) 64 c] w fun e w' => e = .returned (.agg (Wd (sched bs)).toArray) ∧ Below w.heap.size w w' := by
  have hg : g < w.heap.size := World.block_lt_of_cell? w _ (hcells 0 (by omega))
  have HC := Lib.hid hcells
  clear hcells
  go_enter Tryz.func95, Tryz.ntmps95
  go_wp2_with fail
  go_loopw [8] (fun i wr => ∃ k : Nat, k ≤ 16 ∧ i = .int .i64 k ∧ Blk wr (w.heap.size + 1) 148 (part (own16 bs k)) ∧ Blk wr w.heap.size 148 (List.replicate 64 (.int .u32 0)) ∧ Below w.heap.size w wr) (fun i _ => 16 - (intOf i).toNat)
  case atStart => exact ⟨0, by omega, rfl, blk_two w 148 148 (List.replicate 64 (.int .u32 0)) (List.replicate 64 (.int .u32 0)), (Blk.new w 148 (List.replicate 64 (.int .u32 0))).alloc _, ((Below.refl _ _).alloc (Nat.le_refl _) _).alloc (by simp) _⟩
  case round =>
    obtain ⟨k, hk, rfl, hb1, hb0, hnx⟩ := hrel
    go_wp2_with fail
    · have hk16 : k < 16 := by omega
      have f0 : wr.cell? ⟨g, o + 4 * k, none⟩ = some (.int .u8 (nb (bs.getD (4 * k) 0))) := (hnx.cell hg).trans (HC.out _ (by omega))
      have f1 : wr.cell? ⟨g, o + (4 * k + 1), none⟩ = some (.int .u8 (nb (bs.getD (4 * k + 1) 0))) := (hnx.cell hg).trans (HC.out _ (by omega))
      have f2 : wr.cell? ⟨g, o + (4 * k + 2), none⟩ = some (.int .u8 (nb (bs.getD (4 * k + 2) 0))) := (hnx.cell hg).trans (HC.out _ (by omega))
      have f3 : wr.cell? ⟨g, o + (4 * k + 3), none⟩ = some (.int .u8 (nb (bs.getD (4 * k + 3) 0))) := (hnx.cell hg).trans (HC.out _ (by omega))
      have hlk := own16_length bs k
      have e0 := Lib.hid (word4_eq bs k)
      generalize bs.getD (4 * k) 0 = b0 at f0 e0
      generalize bs.getD (4 * k + 1) 0 = b1 at f1 e0
      generalize bs.getD (4 * k + 2) 0 = b2 at f2 e0
      generalize bs.getD (4 * k + 3) 0 = b3 at f3 e0
      have n0 := nb_bound b0
      have n1 := nb_bound b1
      have n2 := nb_bound b2
      have n3 := nb_bound b3
      have hfz := hb1.frozen k
      have hz : wr.cell? ⟨w.heap.size + 1, k, none⟩ = some (.int .u32 0) := by
        rw [hb1.cell]
        have := part_next (l := own16 bs k) (by omega)
        rwa [hlk] at this
      have HB1 := Lib.hid hb1
      have HB0 := Lib.hid hb0
      have HN := Lib.hid hnx
      clear hb1 hb0 hnx
      go_region
      all_goals go_wp2
      all_goals go_roundw
      case rel =>
        refine ⟨k + 1, by omega, by go_num, ?_, ?_, ?_⟩
        · exact own_step HB1.out hk16 b0 b1 b2 b3 e0
        · exact (HB0.out.drew).far (p := ⟨w.heap.size + 1, _, none⟩) (by simp) _
        · exact HN.out.drew.setCell (p := ⟨w.heap.size + 1, _, none⟩) (by simp) _
      case measure => simp [intOf]; omega
    · have hd16 : decide ((k : Int) < 16) = false := decide_eq_false (by omega)
      rw [hd16]
      rw [show k = 16 by omega] at hb1
      clear hd16
      go_loopw [5] (fun i wr => ∃ k : Nat, k ≤ 48 ∧ i = .int .i64 (16 + k) ∧ Blk wr (w.heap.size + 1) 148 (part (more (own16 bs 16) k)) ∧ Blk wr w.heap.size 148 (List.replicate 64 (.int .u32 0)) ∧ Below w.heap.size w wr) (fun i _ => 64 - (intOf i).toNat)
      case atStart => exact ⟨0, by omega, rfl, hb1, hb0, hnx⟩
      case round =>
        clear hb1 hb0 hnx
        obtain ⟨k, hk, rfl, hb1, hb0, hnx⟩ := hrel
        have hlm := more_length (own16 bs 16) k
        rw [own16_length] at hlm
        have hd : more (own16 bs 16) (k + 1) = more (own16 bs 16) k ++ [nextW (more (own16 bs 16) k)] := rfl
        have hpl : (part (more (own16 bs 16) k)).length = 64 := part_length (by omega)
        go_wp2_with (first
          | (refine wpList_load_mid rfl 148 (.tmp 3) rfl (w.heap.size + 1) 0 rfl _ _ hb1.range Tryz.underlying148 rfl (info74.trans (by rw [hpl])) ?_)
          | (refine wpList_store_mid rfl 148 (.tmp 2) (.tmp 90) rfl w.heap.size 0 _ rfl rfl (hb0.there (by simp [hpl])) (info74.trans (by simp [hpl])) (all_oneCell_toArray (part_oneCell _)) ?_))
        · have hk48 : k < 48 := by omega
          have hg16 := part_get (l := more (own16 bs 16) k) (i := 16 + k - 16) (by omega)
          have hg15 := part_get (l := more (own16 bs 16) k) (i := 16 + k - 15) (by omega)
          have hg7 := part_get (l := more (own16 bs 16) k) (i := 16 + k - 7) (by omega)
          have hg2 := part_get (l := more (own16 bs 16) k) (i := 16 + k - 2) (by omega)
          have hz := part_next (l := more (own16 bs 16) k) (by omega)
          rw [show 16 + k - 16 = k by omega] at hg16
          rw [← hb1.cell] at hg16 hg15 hg7 hg2 hz
          rw [hlm] at hz
          have hN : nextW (more (own16 bs 16) k) = (more (own16 bs 16) k).getD k 0 + far ((more (own16 bs 16) k).getD (16 + k - 15) 0) + (more (own16 bs 16) k).getD (16 + k - 7) 0 + near ((more (own16 bs 16) k).getD (16 + k - 2) 0) := by
            unfold nextW
            rw [hlm, show 16 + k - 16 = k by omega]
          have hfz := hb1.frozen (16 + k)
          have hps := part_set (l := more (own16 bs 16) k) (by omega) (nextW (more (own16 bs 16) k))
          rw [hN, hlm] at hps
          have HD := Lib.hid hd
          have HP := Lib.hid hps
          have HN := Lib.hid hN
          have HB1 := Lib.hid hb1
          have HB0 := Lib.hid hb0
          have HX := Lib.hid hnx
          clear hd hps hN hb1 hb0 hnx hpl
          generalize (more (own16 bs 16) k).getD k 0 = x16 at hg16 HN HP
          generalize (more (own16 bs 16) k).getD (16 + k - 15) 0 = x15 at hg15 HN HP
          generalize (more (own16 bs 16) k).getD (16 + k - 7) 0 = x7 at hg7 HN HP
          generalize (more (own16 bs 16) k).getD (16 + k - 2) 0 = x2 at hg2 HN HP
          have n15 := nw_bound x15
          have n2 := nw_bound x2
          go_region
          all_goals go_wp2_with (first
            | (go_at_call 105; with_reducible refine (rot_7 _ x15).mono ?_; rintro e w' ⟨rfl, rfl⟩)
            | (go_at_call 105; with_reducible refine (rot_18 _ x15).mono ?_; rintro e w' ⟨rfl, rfl⟩)
            | (go_at_call 105; with_reducible refine (rot_17 _ x2).mono ?_; rintro e w' ⟨rfl, rfl⟩)
            | (go_at_call 105; with_reducible refine (rot_19 _ x2).mono ?_; rintro e w' ⟨rfl, rfl⟩))
          all_goals go_region
          all_goals go_wp2
          all_goals go_roundw
          case rel =>
            refine ⟨k + 1, by omega, by go_num, ?_, ?_, ?_⟩
            · exact more_step HB1.out (own16_length bs 16) hk48 x16 x15 x7 x2 HN.out
            · exact (HB0.out.drew.drew).far (p := ⟨w.heap.size + 1, _, none⟩) (by simp) _
            · exact HX.out.drew.drew.setCell (p := ⟨w.heap.size + 1, _, none⟩) (by simp) _
          case measure => simp [intOf]; omega
        · obtain rfl : k = 48 := by omega
          have hb := hb0.setCells (part (more (own16 bs 16) 48)) 0 (by simp [hpl])
          have ho : over (List.replicate 64 (Value.int .u32 0)) 0 (part (more (own16 bs 16) 48)) = Wd (sched bs) := by
            unfold over
            rw [List.take_zero, List.drop_eq_nil_of_le (by simp [hpl]), part_whole _ (by rw [hlm])]
            simp [sched]
          rw [ho] at hb
          refine bodyPost_ret (v := .agg (Wd (sched bs)).toArray) ?_ rfl ⟨rfl, ?_⟩
          · exact ret_cell rfl rfl (run_loadVar_mid _ _ 0 148 _ _ hb.range Tryz.underlying148 rfl (info74.trans (by simp [Wd_length, sched_length])))
          · exact (Only.setCells _ _ _ (S := []) (a := w) (Only.of_below hnx) (.inr (Nat.le_refl _))).below (Nat.le_refl _) (by simp)

end Go.Proofs.YtlpljedacohngaaGreatDoor
end

/-
  A block's turn of the eight words, as plain data. No condition.
-/

section
set_option maxRecDepth 100000
set_option linter.unusedSimpArgs false
set_option linter.unusedVariables false
namespace Go.Proofs.YtlpljedacohngaaGreatDoor
open Go.RowKit

/-- The eight words. -/
structure S8 where
  a : B32
  b : B32
  c : B32
  d : B32
  e : B32
  f : B32
  g : B32
  h : B32

def S8.list (s : S8) : List B32 := [s.a, s.b, s.c, s.d, s.e, s.f, s.g, s.h]
def one8 (s : S8) (k w : B32) : B32 := s.h + (rr s.e 6 ^^^ rr s.e 11 ^^^ rr s.e 25) + ((s.e &&& s.f) ^^^ (~~~s.e &&& s.g)) + k + w
def two8 (s : S8) : B32 := (rr s.a 2 ^^^ rr s.a 13 ^^^ rr s.a 22) + ((s.a &&& s.b) ^^^ (s.a &&& s.c) ^^^ (s.b &&& s.c))
def step8 (s : S8) (k w : B32) : S8 := ⟨one8 s k w + two8 s, s.a, s.b, s.c, s.d + one8 s k w, s.e, s.f, s.g⟩
/-- The words behind i steps. -/
def steps8 (ks ws : List B32) (s : S8) : Nat → S8
  | 0 => s
  | i + 1 => step8 (steps8 ks ws s i) (ks.getD i 0) (ws.getD i 0)
def add8 (s t : S8) : S8 := ⟨s.a + t.a, s.b + t.b, s.c + t.c, s.d + t.d, s.e + t.e, s.f + t.f, s.g + t.g, s.h + t.h⟩
def turn8 (ks : List B32) (s : S8) (bs : List B8) : S8 := add8 s (steps8 ks (sched bs) s 64)
/-- The first k words have been added. -/
def mix8 (s t : S8) (k : Nat) : List B32 := (add8 s t).list.take k ++ s.list.drop k
theorem mix8_get (s t : S8) {k : Nat} (hk : k < 8) : (mix8 s t k)[k]? = some (s.list.getD k 0) := by
  match k, hk with
  | 0, _ | 1, _ | 2, _ | 3, _ | 4, _ | 5, _ | 6, _ | 7, _ => rfl
theorem mix8_set (s t : S8) {k : Nat} (hk : k < 8) : (mix8 s t k).set k (s.list.getD k 0 + t.list.getD k 0) = mix8 s t (k + 1) := by
  match k, hk with
  | 0, _ | 1, _ | 2, _ | 3, _ | 4, _ | 5, _ | 6, _ | 7, _ => rfl
theorem mix8_length (s t : S8) {k : Nat} (hk : k ≤ 8) : (mix8 s t k).length = 8 := by
  match k, hk with
  | 0, _ | 1, _ | 2, _ | 3, _ | 4, _ | 5, _ | 6, _ | 7, _ | 8, _ => rfl

/-- The steps' constants lie in their variable. -/
def Roots (ks : List B32) (w : World) : Prop := ∀ i, i < 64 → w.cell? ⟨0, i, none⟩ = some (.int .u32 (nw (ks.getD i 0)))
theorem Roots.pos {ks : List B32} {w : World} (h : Roots ks w) : 0 < w.heap.size := World.block_lt_of_cell? w _ (h 0 (by omega))
theorem Roots.below {ks : List B32} {w w' : World} {B : Nat} (h : Roots ks w) (hb : Below B w w') (hB : 0 < B) : Roots ks w' := fun i hi => (hb.cell hB).trans (h i hi)
theorem Roots.only {ks : List B32} {w w' : World} {S : List Nat} (h : Roots ks w) (hb : Only S w w') (hS : 0 ∉ S) : Roots ks w' := by
  intro i hi
  have h0 := h i hi
  rw [← h0]
  unfold World.cell?
  rw [show (⟨0, i, none⟩ : Addr).block = 0 from rfl, hb.block 0 h.pos hS]

end Go.Proofs.YtlpljedacohngaaGreatDoor
end

/-
  turn: a block brought into the words. Conditions: the stream's block is known; 64 bytes, each cell there; the constants lie in their variable.
-/

section
set_option maxRecDepth 100000
set_option linter.unusedSimpArgs false
set_option linter.unusedVariables false
namespace Go.Proofs.YtlpljedacohngaaGreatDoor
open Go.RowKit

attribute [local go_sem] add_u32 xor_u32 and_u32 or_u32 not_u32 shl_u32 shr_u32 div_u32 div_8 div_3 div_16 div_10 div_24

theorem ar1 (w : World) (x : B32) : Calls Tryz.prog 96 #[.int .u32 (nw x), .int .i64 6, .int .i64 11, .int .i64 25] w fun e w' => e = .returned (.int .u32 (nw (rr x 6 ^^^ rr x 11 ^^^ rr x 25))) ∧ w = w' := around_any w x 6 11 25 (by omega) (by omega) (by omega)
theorem ar1q (w : World) (x : B32) : Calls Tryz.prog 96 #[.int .u32 (nw x), .int .i64 6, .int .i64 11, .int .i64 25] w fun e w' => e = .returned (.int .u32 (nw (rr x 6 ^^^ rr x 11 ^^^ rr x 25))) ∧ w' = w := (ar1 w x).mono fun _ _ h => ⟨h.1, h.2.symm⟩
theorem chosenq (w : World) (x y z : B32) : Calls Tryz.prog 97 #[.int .u32 (nw x), .int .u32 (nw y), .int .u32 (nw z)] w fun e w' => e = .returned (.int .u32 (nw ((x &&& y) ^^^ (~~~x &&& z)))) ∧ w' = w := (chosen_any w x y z).mono fun _ _ h => ⟨h.1, h.2.symm⟩
theorem ar2 (w : World) (x : B32) : Calls Tryz.prog 96 #[.int .u32 (nw x), .int .i64 2, .int .i64 13, .int .i64 22] w fun e w' => e = .returned (.int .u32 (nw (rr x 2 ^^^ rr x 13 ^^^ rr x 22))) ∧ w = w' := around_any w x 2 13 22 (by omega) (by omega) (by omega)

theorem index8 (t : S8) (j : Nat) (hj : j < 8) (W : World) : (Instr.index 116 (.agg #[.int .u32 (nw t.a), .int .u32 (nw t.b), .int .u32 (nw t.c), .int .u32 (nw t.d), .int .u32 (nw t.e), .int .u32 (nw t.f), .int .u32 (nw t.g), .int .u32 (nw t.h)]) (.int .i64 j)).run Tryz.prog W = .ok (.int .u32 (nw (t.list.getD j 0))) W := by
  match j, hj with
  | 0, _ => exact (by kernel_rfl : (Instr.index 116 (.agg #[.int .u32 (nw t.a), .int .u32 (nw t.b), .int .u32 (nw t.c), .int .u32 (nw t.d), .int .u32 (nw t.e), .int .u32 (nw t.f), .int .u32 (nw t.g), .int .u32 (nw t.h)]) (.int .i64 0)).run Tryz.prog W = .ok (.int .u32 (nw t.a)) W)
  | 1, _ => exact (by kernel_rfl : (Instr.index 116 (.agg #[.int .u32 (nw t.a), .int .u32 (nw t.b), .int .u32 (nw t.c), .int .u32 (nw t.d), .int .u32 (nw t.e), .int .u32 (nw t.f), .int .u32 (nw t.g), .int .u32 (nw t.h)]) (.int .i64 1)).run Tryz.prog W = .ok (.int .u32 (nw t.b)) W)
  | 2, _ => exact (by kernel_rfl : (Instr.index 116 (.agg #[.int .u32 (nw t.a), .int .u32 (nw t.b), .int .u32 (nw t.c), .int .u32 (nw t.d), .int .u32 (nw t.e), .int .u32 (nw t.f), .int .u32 (nw t.g), .int .u32 (nw t.h)]) (.int .i64 2)).run Tryz.prog W = .ok (.int .u32 (nw t.c)) W)
  | 3, _ => exact (by kernel_rfl : (Instr.index 116 (.agg #[.int .u32 (nw t.a), .int .u32 (nw t.b), .int .u32 (nw t.c), .int .u32 (nw t.d), .int .u32 (nw t.e), .int .u32 (nw t.f), .int .u32 (nw t.g), .int .u32 (nw t.h)]) (.int .i64 3)).run Tryz.prog W = .ok (.int .u32 (nw t.d)) W)
  | 4, _ => exact (by kernel_rfl : (Instr.index 116 (.agg #[.int .u32 (nw t.a), .int .u32 (nw t.b), .int .u32 (nw t.c), .int .u32 (nw t.d), .int .u32 (nw t.e), .int .u32 (nw t.f), .int .u32 (nw t.g), .int .u32 (nw t.h)]) (.int .i64 4)).run Tryz.prog W = .ok (.int .u32 (nw t.e)) W)
  | 5, _ => exact (by kernel_rfl : (Instr.index 116 (.agg #[.int .u32 (nw t.a), .int .u32 (nw t.b), .int .u32 (nw t.c), .int .u32 (nw t.d), .int .u32 (nw t.e), .int .u32 (nw t.f), .int .u32 (nw t.g), .int .u32 (nw t.h)]) (.int .i64 5)).run Tryz.prog W = .ok (.int .u32 (nw t.f)) W)
  | 6, _ => exact (by kernel_rfl : (Instr.index 116 (.agg #[.int .u32 (nw t.a), .int .u32 (nw t.b), .int .u32 (nw t.c), .int .u32 (nw t.d), .int .u32 (nw t.e), .int .u32 (nw t.f), .int .u32 (nw t.g), .int .u32 (nw t.h)]) (.int .i64 6)).run Tryz.prog W = .ok (.int .u32 (nw t.g)) W)
  | 7, _ => exact (by kernel_rfl : (Instr.index 116 (.agg #[.int .u32 (nw t.a), .int .u32 (nw t.b), .int .u32 (nw t.c), .int .u32 (nw t.d), .int .u32 (nw t.e), .int .u32 (nw t.f), .int .u32 (nw t.g), .int .u32 (nw t.h)]) (.int .i64 7)).run Tryz.prog W = .ok (.int .u32 (nw t.h)) W)
theorem mix_step {w : World} {p j : Nat} {s t : S8} {tl : List Value} (h : Blk w p 120 (Wd (mix8 s t j) ++ tl)) (hj : j < 8) : Blk (w.setCell ⟨p, j, none⟩ (.int .u32 (nw (s.list.getD j 0 + t.list.getD j 0)))) p 120 (Wd (mix8 s t (j + 1)) ++ tl) := by
  have hl := mix8_length s t (k := j) (by omega)
  have := h.set_ j (.int .u32 (nw (s.list.getD j 0 + t.list.getD j 0)))
  rw [List.set_append_left _ _ (by rw [Wd_length]; omega)] at this
  have e : (Wd (mix8 s t j)).set j (.int .u32 (nw (s.list.getD j 0 + t.list.getD j 0))) = Wd (mix8 s t (j + 1)) := by
    rw [← mix8_set s t hj]
    unfold Wd
    rw [List.map_set]
  rw [e] at this
  exact this
theorem mix_cell {w : World} {p j : Nat} {s t : S8} {tl : List Value} (h : Blk w p 120 (Wd (mix8 s t j) ++ tl)) (hj : j < 8) : w.cell? ⟨p, j, none⟩ = some (.int .u32 (nw (s.list.getD j 0))) := by
  have hl := mix8_length s t (k := j) (by omega)
  rw [h.cell, List.getElem?_append_left (by rw [Wd_length]; omega), Wd_get, mix8_get s t hj]
  rfl

set_option maxHeartbeats 1000000 in
set_option maxRecDepth 100000 in
theorem turn_any (ks : List B32) (w : World) (p g o c : Nat) (s : S8) (tl : List Value) (bs : List B8) (hp : 0 < p) (hK : Roots ks w) (hb : Blk w p 120 (Wd s.list ++ tl)) (hcells : ∀ j, j < 64 → w.cell? ⟨g, o + j, none⟩ = some (.int .u8 (nb (bs.getD j 0)))) :
    Calls Tryz.prog 79 #[.pointer (some ⟨p, 0, none⟩), .slice (some ⟨g, o, none⟩) 64 c] w fun e w' => e = .returned (.tuple #[]) ∧ Blk w' p 120 (Wd (turn8 ks s bs).list ++ tl) ∧ Only [p] w w' := by
  have hpl := hb.lt
  go_enter Tryz.func79, Tryz.ntmps79
  go_wp2_with fail
  refine (spread_any w g o c bs hcells).mono ?_
  rintro e w1 ⟨rfl, h1⟩
  have hK1 := hK.below h1 hK.pos
  have hb1 := hb.below h1 hpl
  have hs1 := h1.size
  have HC := Lib.hid hcells
  have H1 := Lib.hid h1
  have HB := Lib.hid hb
  have HK := Lib.hid hK
  have HK1 := Lib.hid hK1
  clear hcells h1 hb hK hK1
  have HB1 := Lib.hid hb1
  clear hb1
  go_wp2_with (refine wpList_store_blk rfl 148 (.tmp 4) (.tmp 19) rfl w1.heap.size 0 (Wd (sched bs)) rfl rfl (Blk.new w1 148 (List.replicate 64 (.int .u32 0))) (by simp [Wd_length, sched_length]) (info74.trans (by simp [Wd_length, sched_length])) (Wd_oneCell _) ?_; intro W2 hA hO)
  rw [over_whole (by simp [Wd_length, sched_length])] at hA
  have hO2 : Below w.heap.size w W2 := H1.out.trans (((Below.refl _ _).alloc (Nat.le_refl _) _).trans ((hO.below (B := w1.heap.size) (by simp) (by simp)))|>.mono hs1)
  have hK2 := HK.out.below hO2 (by omega)
  have hb2 := HB.out.below hO2 hpl
  have hpA : p < w1.heap.size := by omega
  have c0 := hb2.cell 0
  have c1 := hb2.cell 1
  have c2 := hb2.cell 2
  have c3 := hb2.cell 3
  have c4 := hb2.cell 4
  have c5 := hb2.cell 5
  have c6 := hb2.cell 6
  have c7 := hb2.cell 7
  simp only [Wd, S8.list, List.map_cons, List.map_nil, List.cons_append, List.getElem?_cons_zero, List.getElem?_cons_succ] at c0 c1 c2 c3 c4 c5 c6 c7
  have HB2 := Lib.hid hb2
  have HA := Lib.hid hA
  have HO2 := Lib.hid hO2
  have HK2 := Lib.hid hK2
  clear hb2 hA hO2 hK2 HB1 H1 HK1 hO HC
  go_quiet (fail)
  clear c0 c1 c2 c3 c4 c5 c6 c7
  go_wp2
  go_loopw [52, 5, 6, 7, 8, 9, 10, 11, 12] (fun i va vb vc vd ve vf vg vh wr => ∃ k : Nat, k ≤ 64 ∧ i = .int .i64 k ∧ va = .int .u32 (nw (steps8 ks (sched bs) s k).a) ∧ vb = .int .u32 (nw (steps8 ks (sched bs) s k).b) ∧ vc = .int .u32 (nw (steps8 ks (sched bs) s k).c) ∧ vd = .int .u32 (nw (steps8 ks (sched bs) s k).d) ∧
      ve = .int .u32 (nw (steps8 ks (sched bs) s k).e) ∧ vf = .int .u32 (nw (steps8 ks (sched bs) s k).f) ∧ vg = .int .u32 (nw (steps8 ks (sched bs) s k).g) ∧ vh = .int .u32 (nw (steps8 ks (sched bs) s k).h) ∧ ∃ n, wr = W2.drewN n) (fun i _ _ _ _ _ _ _ _ _ => 64 - (intOf i).toNat)
  case atStart => exact ⟨0, by omega, rfl, rfl, rfl, rfl, rfl, rfl, rfl, rfl, rfl, nq, rfl⟩
  case round =>
    obtain ⟨k, hk, rfl, rfl, rfl, rfl, rfl, rfl, rfl, rfl, rfl, n, rfl⟩ := hrel
    have hS : steps8 ks (sched bs) s (k + 1) = step8 (steps8 ks (sched bs) s k) (ks.getD k 0) ((sched bs).getD k 0) := rfl
    have HS := Lib.hid hS
    clear hS
    go_wp2_with fail
    · have hk64 : (k : Int) < 64 := by omega
      have hk0 : (0 : Int) ≤ (k : Int) := by omega
      have f0 : W2.cell? ⟨0, k, none⟩ = some (.int .u32 (nw (ks.getD k 0))) := HK2.out k (by omega)
      have f1 : W2.cell? ⟨w1.heap.size, k, none⟩ = some (.int .u32 (nw ((sched bs).getD k 0))) := by
        refine (HA.out.cell k).trans ?_
        rw [Wd_get, List.getD_eq_getElem?_getD, List.getElem?_eq_getElem (by rw [sched_length]; omega)]
        rfl
      generalize ks.getD k 0 = kc at f0 HS
      generalize (sched bs).getD k 0 = wc at f1 HS
      generalize steps8 ks (sched bs) s k = t at HS
      go_quiet (first
        | (go_at_call 96; exact (ar1q _ _).mono fun _ _ h => ⟨h.1, _, h.2⟩)
        | (go_at_call 97; exact (chosenq _ _ _ _).mono fun _ _ h => ⟨h.1, _, h.2⟩))
      clear f0 f1
      go_wp2_with (first
        | (go_at_call 96; with_reducible refine (ar2 _ _).mono ?_; rintro e w' ⟨rfl, rfl⟩)
        | (go_at_call 98; with_reducible refine (most_any _ _ _ _).mono ?_; rintro e w' ⟨rfl, rfl⟩))
      go_roundw
      case rel =>
        refine ⟨k + 1, by omega, by go_num, ?_, ?_, ?_, ?_, ?_, ?_, ?_, ?_, ?_⟩
        · rw [HS.out]; rfl
        · rw [HS.out]; rfl
        · rw [HS.out]; rfl
        · rw [HS.out]; rfl
        · rw [HS.out]; rfl
        · rw [HS.out]; rfl
        · rw [HS.out]; rfl
        · rw [HS.out]; rfl
        · exact ⟨_, rfl⟩
      case measure => simp [intOf]; omega
    · have hd64 : decide ((k : Int) < 64) = false := decide_eq_false (by omega)
      rw [hd64]
      clear hd64
      obtain ⟨t, ht⟩ : ∃ t, t = steps8 ks (sched bs) s 64 := ⟨_, rfl⟩
      rw [show k = 64 by omega, ← ht]
      have HT := Lib.hid ht
      clear ht HS
      go_loopw [101] (fun i wr => ∃ j : Nat, j ≤ 8 ∧ i = .int .i64 j ∧ Blk wr p 120 (Wd (mix8 s t j) ++ tl) ∧ Only [p] W2 wr) (fun i _ => 8 - (intOf i).toNat)
      case atStart => exact ⟨0, by omega, rfl, HB2.out.drewN n, (Only.refl _ _).drewN n⟩
      case round =>
        obtain ⟨j, hj, rfl, hbj, hoj⟩ := hrel
        by_cases hj8 : j < 8
        · have hix := index8 t j hj8 wr
          have hmc := mix_cell hbj hj8
          have hfz := hbj.frozen j
          have hms := mix_step hbj hj8
          generalize s.list.getD j 0 = x at hmc hms
          generalize t.list.getD j 0 = y at hix hms
          have HMS := Lib.hid hms
          have HOJ := Lib.hid hoj
          clear hbj hoj hms
          go_wp2_with fail
          go_region
          all_goals go_wp2
          all_goals go_roundw
          case rel => exact ⟨j + 1, by omega, by go_num, HMS.out.drew, (HOJ.out.drew.setCell (p := ⟨p, j, none⟩) (.inl (by simp)) _)⟩
          case measure => simp [intOf]; omega
        · obtain rfl : j = 8 := by omega
          have HBJ := Lib.hid hbj
          have HOJ := Lib.hid hoj
          clear hbj hoj
          go_wp2
          go_end0
          refine ⟨rfl, ?_, ?_⟩
          · have e : mix8 s t 8 = (turn8 ks s bs).list := by
              rw [HT.out]; rfl
            rw [← e]
            exact HBJ.out
          · exact (Only.of_below HO2.out).trans HOJ.out

end Go.Proofs.YtlpljedacohngaaGreatDoor
end
