/-
  Drawn regions by words: what operations leave, told by a list; the rules for a region whose operations are told by kind; appends and stores in it. Plain theorems on the rules; conditions: those of each.
-/
import Derived.Test.YtammomjnigalbaaBMem
import Derived.Test.YtammomjnigalbaaDWhole
import Derived.Test.YtammomjnigalbaaRQuick
import Derived.Test.YtammomjnigalbaaRChain
import Derived.Deep.AppendSrc
import Derived.Deep.AppendLies
import Derived.Deep.Upon
set_option linter.unusedSimpArgs false
set_option linter.unusedVariables false
set_option maxRecDepth 100000
namespace Go.Proofs.Ytammomjnigalbaa
open Go.RowKit Go.Maps

/-- Words on what operations leave, by a list. -/
def LV (fs : List (Value → World → Prop)) (i : Nat) (v : Nat → Value) (w : World) : Prop := match fs[i]? with
  | some F => F (v i) w
  | none => True
def StV (F : Value → World → Prop) : Prop := ∀ u w w', F u w → Below w.heap.size w w' → F u w'
theorem LV.loc {fs : List (Value → World → Prop)} : ∀ i v j x w, LV fs i v w → j ≠ i → LV fs i (setV v j x) w := by
  intro i v j x w h hj
  unfold LV at h ⊢
  split
  · rename_i F he
    rw [he] at h
    show F (setV v j x i) w
    unfold setV
    rw [if_neg (Ne.symm hj)]
    exact h
  · trivial
theorem LV.st {fs : List (Value → World → Prop)} (hf : ∀ F ∈ fs, StV F) : ∀ i k v w w', k ≠ i → LV fs i v w → Below w.heap.size w w' → LV fs i v w' := by
  intro i k v w w' _ h hb
  unfold LV at h ⊢
  cases he : fs[i]? with
  | none => trivial
  | some F =>
    rw [he] at h
    exact hf F (List.mem_of_getElem? he) _ _ _ h hb
def isV (x : Value) : Value → World → Prop := fun u _ => u = x
theorem isV.st (x : Value) : StV (isV x) := fun _ _ _ h _ => h
def quickB (ds : List (Option Tmp)) (n : Nat) : Bool := apartR ds && ds.all fun d => match d with | some t => decide (t < n) | none => true
/-- No two operations write one slot, and each slot is there. -/
structure QuickR (ds : List (Option Tmp)) (a0 : Act) : Prop where
  ap : apartR ds = true
  lt : ∀ (j : Nat) (t : Tmp), ds[j]? = some (some t) → t < a0.tmps.size
theorem QuickR.of {ds : List (Option Tmp)} {a0 : Act} (h : quickB ds a0.tmps.size = true) : QuickR ds a0 := by
  unfold quickB at h
  rw [Bool.and_eq_true] at h
  refine ⟨h.1, fun j t hj => ?_⟩
  have := List.all_eq_true.1 h.2 (some t) (List.mem_of_getElem? hj)
  simpa using this
section
variable {P : Program} {ops : Array Oper} {Q : Exit → Act → World → Prop} {ds : List (Option Tmp)} {a0 : Act} {o : Oper} {v : Nat → Value} {j : Nat} {t : Tmp} {x : Value}
theorem QuickR.at_ (hq : QuickR ds a0) (hj : ds[j]? = some (some t)) (hv : v j = x) : (fillR ds v 0 a0).eval (.tmp t) = x := fill_at hq.ap hj (hq.lt j t hj) hv
theorem QuickR.yes {b : Bool} (hq : QuickR ds a0) (hg : o.guard = some (j, b)) (ho : (ops[j]?).bind (·.dst) = some t) (hj : ds[j]? = some (some t)) (hv : v j = .bool b) : Region.wanted o (yielded ops (fillR ds v 0 a0).tmps) = true := wanted_yes hg ho hq.ap hj (hq.lt j t hj) hv
theorem QuickR.no {b c : Bool} (hq : QuickR ds a0) (hg : o.guard = some (j, b)) (ho : (ops[j]?).bind (·.dst) = some t) (hj : ds[j]? = some (some t)) (hv : v j = .bool c) (hc : (c == b) = false) : Region.wanted o (yielded ops (fillR ds v 0 a0).tmps) = false := wanted_no hg ho hq.ap hj (hq.lt j t hj) hv hc
theorem QuickR.un {b : Bool} (hq : QuickR ds a0) (hg : o.guard = some (j, b)) (ho : (ops[j]?).bind (·.dst) = some t) (hj : ds[j]? = some (some t)) (hv : v j = undef) : Region.wanted o (yielded ops (fillR ds v 0 a0).tmps) = false := wanted_un hg ho hq.ap hj (hq.lt j t hj) hv
theorem wp_region_quick (ds : List (Option Tmp)) (fs : List (Value → World → Prop)) (n : Nat) {id : Nat} {w : World} (hm : P.follows .mixedOrders = true)
    (hn : ops.size = n) (hds : ops.toList.map (·.dst) = ds) (hq : quickB ds a0.tmps.size = true) (hl : lexA .any ops = true) (hst : ∀ F ∈ fs, StV F)
    (hstep : QuickR ds a0 → ∀ i, i < n → StepL P .any ops Q ds (LV fs) (fun wx => Below w.heap.size w wx) (fun _ a b => Below a.heap.size a b) a0 i)
    (hfin : ∀ (v : Nat → Value) (wx : World), Below w.heap.size w wx → (∀ i, i < n → LV fs i v wx) → Q .normal (fillR ds v 0 a0) wx) : (Code.region id ops true).wp P Q a0 w :=
  wp_region_lookA ds (LV fs) (fun _ => []) (fun wx => Below w.heap.size w wx) (fun _ a b => Below a.heap.size a b) n hm hn hds (QuickR.of hq).ap hl ⟨rfl, rfl, rfl, Nat.le_refl _, fun _ _ => rfl⟩ (fun i v j x w h hj _ => LV.loc i v j x w h hj)
    (fun i hi => by unfold waitsR; subst hn; rw [Array.getElem?_eq_getElem hi]; rfl) (LV.st hst) (hstep (QuickR.of hq)) hfin
end
section
variable {P : Program} {ops : Array Oper} {Q : Exit → Act → World → Prop} {md : Region.Mode}
/-! The same as wp_region_tail, where the last operations may write slots that the others read. -/
theorem wpAny_tailP (ds : List (Option Tmp)) (L : Nat) (hds : (ops.toList.take L).map (·.dst) = ds) (hap : apartR ds = true) (hl : lexR ops = true)
    (V : Nat → (Nat → Value) → World → Prop) (R : World → Prop) (Rel : Nat → World → World → Prop) (a0 : Act) (hL : L < ops.size) (ht : tailR md ops L = true)
    (hloc : ∀ i v j x w, V i v w → j ≠ i → V i (setV v j x) w)
    (hst : ∀ i k v w w', k ≠ i → V i v w → Rel k w w' → V i v w')
    (hstep : ∀ i, i < L → StepL P md ops Q ds V R Rel a0 i)
    (htail : ∀ v w, R w → (∀ i, i < L → V i v w) → wpList P ops Q (ops.toList.drop L) (fillR ds v 0 a0) w) :
    ∀ (fuel : Nat) (listed : Array Bool) (v : Nat → Value) (w : World), listed.size = ops.size → leftR listed ≤ fuel → ClosedR md ops listed → (∀ j, L ≤ j → listed.getD j false = false) → R w → (∀ i, listed.getD i false = true → V i v w) →
      wpAny P md ops Q fuel listed (fillR ds v 0 a0) w := by
  intro fuel
  induction fuel with
  | zero =>
    intro listed v w hs hf hc h2 hR hV
    have h0 : listed.getD L true = false := by rw [getD_tf (by omega)]; exact h2 L (Nat.le_refl _)
    have := leftR_set h0
    omega
  | succ fuel ih =>
    intro listed v w hs hf hc h2 hR hV
    refine ⟨fun hr => ?_, fun i hi => ?_⟩
    · have := all_listed hl hs hr L hL
      rw [h2 L (Nat.le_refl _)] at this
      cases this
    obtain ⟨h0, o, ho, hall⟩ := mem_ready.1 hi
    have hil := (Array.getElem?_eq_some_iff.1 ho).1
    by_cases hiL : i < L
    · have hd : ds[i]? = some o.dst := by
        rw [← hds, List.getElem?_map, List.getElem?_take_of_lt hiL]
        have : ops.toList[i]? = some o := by simpa using ho
        rw [this]
        rfl
      refine wpOp_step ho fun K hK => hstep i hiL o ho v w hR (fun e he hb => hV e.on (hall e he hb)) K ?_
      intro x w' hR' hrel hV'
      refine hK _ _ ?_
      rw [put_fill ds hap v 0 a0 i o.dst x hd, Nat.zero_add]
      refine ih _ _ _ (by simpa using hs) (by have := leftR_set h0; omega) (closed_set hc ho hall) (fun j hj => by rw [getD_set_ne false (by omega)]; exact h2 j hj) hR' fun j hj => ?_
      by_cases hji : j = i
      · subst hji
        exact hV'
      · have hlj : listed.getD j false = true := by rw [getD_set_ne false (Ne.symm hji)] at hj; exact hj
        exact hloc j v i x w' (hst j i _ _ _ (Ne.symm hji) (hV j hlj) hrel) (Ne.symm hji)
    · have hpre := tail_ready ht hc (by omega) ho hall
      have hiL' : i = L := by
        rcases Nat.lt_or_ge L i with h | h
        · have := hpre L h
          rw [h2 L (Nat.le_refl _)] at this
          cases this
        · omega
      subst hiL'
      have hfull : wpAny P md ops Q (fuel + 1) listed (fillR ds v 0 a0) w := by
        have h3 : ops.size - i ≤ fuel + 1 := by
          have : ops.size - i ≤ leftR listed := by
            unfold leftR
            have e : listed.toList = listed.toList.take i ++ listed.toList.drop i := (List.take_append_drop _ _).symm
            rw [e, List.countP_append]
            have hall' : (listed.toList.drop i).countP (fun b => !b) = (listed.toList.drop i).length := by
              rw [List.countP_eq_length]
              intro b hb
              obtain ⟨k, hk, rfl⟩ := List.getElem_of_mem hb
              rw [List.getElem_drop]
              have hk' : i + k < listed.size := by simp at hk; omega
              have := h2 (i + k) (by omega)
              simp [hk'] at this
              simpa using this
            rw [hall']
            simp
            omega
          omega
        exact wpAny_list hl ht (fuel + 1) listed i _ w hs (Nat.le_refl _) (by omega) hpre h2 h3 (htail v w hR fun j hj => hV j (hpre j hj))
      exact hfull.2 i hi
theorem wpAny_tailP0 (ds : List (Option Tmp)) (V : Nat → (Nat → Value) → World → Prop) (R : World → Prop) (Rel : Nat → World → World → Prop) (L m : Nat) {a0 : Act} {w : World}
    (hm : ops.size = m) (hL : L < m) (hds : (ops.toList.take L).map (·.dst) = ds) (hap : apartR ds = true) (hl : lexR ops = true) (ht : tailR md ops L = true) (hR : R w)
    (hloc : ∀ i v j x w, V i v w → j ≠ i → V i (setV v j x) w)
    (hst : ∀ i k v w w', k ≠ i → V i v w → Rel k w w' → V i v w')
    (hstep : ∀ i, i < L → StepL P md ops Q ds V R Rel a0 i)
    (htail : ∀ v w, R w → (∀ i, i < L → V i v w) → wpList P ops Q (ops.toList.drop L) (fillR ds v 0 a0) w) : wpAny P md ops Q ops.size (Array.replicate ops.size false) a0 w := by
  subst hm
  have hfill : fillR ds (fun i => match ds[i]? with | some (some t) => a0.tmps.getD t undef | _ => undef) 0 a0 = a0 := by
    refine fill_start a0 ds 0 _ (fun i t ht => ?_)
    simp only [Nat.zero_add, ht]
  have hno : ∀ i, (Array.replicate ops.size false).getD i false = false := fun i => by
    rcases Nat.lt_or_ge i ops.size with h' | h'
    · simp [h']
    · simp [Nat.not_lt.2 h']
  have := wpAny_tailP (P := P) (Q := Q) (md := md) ds L hds hap hl V R Rel a0 hL ht hloc hst hstep htail ops.size (Array.replicate ops.size false) (fun i => match ds[i]? with | some (some t) => a0.tmps.getD t undef | _ => undef) w (by simp) ?_ (fun i hi => by rw [hno i] at hi; cases hi) (fun j _ => hno j) hR ?_
  · rw [hfill] at this
    exact this
  · unfold leftR
    refine Nat.le_trans List.countP_le_length ?_
    simp
  · intro i hi
    rw [hno i] at hi
    cases hi
theorem wp_region_quickT {a0 : Act} (ds : List (Option Tmp)) (fs : List (Value → World → Prop)) (L n : Nat) {id : Nat} {w : World} (hm : P.follows .mixedOrders = true)
    (hn : ops.size = n) (hL : decide (L < n) = true) (hds : (ops.toList.take L).map (·.dst) = ds) (hq : quickB ds a0.tmps.size = true) (hl : lexR ops = true) (ht : tailR .any ops L = true) (hst : ∀ F ∈ fs, StV F)
    (hstep : QuickR ds a0 → ∀ i, i < L → StepL P .any ops Q ds (LV fs) (fun wx => Below w.heap.size w wx) (fun _ a b => Below a.heap.size a b) a0 i)
    (htail : ∀ (v : Nat → Value) (wx : World), Below w.heap.size w wx → (∀ i, i < L → LV fs i v wx) → wpList P ops Q (ops.toList.drop L) (fillR ds v 0 a0) wx) : (Code.region id ops true).wp P Q a0 w :=
  wp_region_any hm (wpAny_tailP0 ds (LV fs) (fun wx => Below w.heap.size w wx) (fun _ a b => Below a.heap.size a b) L n hn (of_decide_eq_true hL) hds (QuickR.of hq).ap hl ht ⟨rfl, rfl, rfl, Nat.le_refl _, fun _ _ => rfl⟩ (fun i v j x w h hj => LV.loc i v j x w h hj) (LV.st hst) (hstep (QuickR.of hq)) htail)
end
section
variable {ρ : Operand → Value} {x0 x1 x2 x3 : Operand} {y0 y1 y2 y3 : Value} {k0 k1 k2 k3 : Nat}
theorem args_1 (h0 : ρ x0 = y0) : (#[x0] : Array Operand).map ρ = #[y0] := by simp [h0]
theorem args_2 (h0 : ρ x0 = y0) (h1 : ρ x1 = y1) : (#[x0, x1] : Array Operand).map ρ = #[y0, y1] := by simp [h0, h1]
theorem args_3 (h0 : ρ x0 = y0) (h1 : ρ x1 = y1) (h2 : ρ x2 = y2) : (#[x0, x1, x2] : Array Operand).map ρ = #[y0, y1, y2] := by simp [h0, h1, h2]
theorem args_4 (h0 : ρ x0 = y0) (h1 : ρ x1 = y1) (h2 : ρ x2 = y2) (h3 : ρ x3 = y3) : (#[x0, x1, x2, x3] : Array Operand).map ρ = #[y0, y1, y2, y3] := by simp [h0, h1, h2, h3]
theorem pairs_0 : (#[] : Array (Nat × Operand)).map (fun (i, x) => (i, ρ x)) = #[] := by simp
theorem pairs_1 (h0 : ρ x0 = y0) : (#[(k0, x0)] : Array (Nat × Operand)).map (fun (i, x) => (i, ρ x)) = #[(k0, y0)] := by simp [h0]
theorem pairs_2 (h0 : ρ x0 = y0) (h1 : ρ x1 = y1) : (#[(k0, x0), (k1, x1)] : Array (Nat × Operand)).map (fun (i, x) => (i, ρ x)) = #[(k0, y0), (k1, y1)] := by simp [h0, h1]
theorem pairs_3 (h0 : ρ x0 = y0) (h1 : ρ x1 = y1) (h2 : ρ x2 = y2) : (#[(k0, x0), (k1, x1), (k2, x2)] : Array (Nat × Operand)).map (fun (i, x) => (i, ρ x)) = #[(k0, y0), (k1, y1), (k2, y2)] := by simp [h0, h1, h2]
end
section
variable {P : Program} {ρ : Operand → Value} {o : Oper} {w : World}
/-- 'append(nothing, x..)', of something, onto a slice without room. -/
theorem x_app_new {s x : Operand} {t e : TypeId} {z : Value} {size bytes : Nat} (ho : o.op = .call { callee := .builtin .append, args := #[s, x], argTypes := #[t, t] }) (ht : P.underlying t = some (.slice e)) (hi : (P.info? e).map (fun i => (i.zero, i.size, i.bytes)) = some (some z, size, bytes))
    {R : Option Addr} (hs : ρ s = .slice R 0 0) {g off m c : Nat} (hx : ρ x = .slice (some ⟨g, off, none⟩) m c) (news : List Value) (hl : news.length = m * size) (hnews : ∀ (j : Nat) u, news[j]? = some u → w.cell? ⟨g, off + j, none⟩ = some u) (h1 : ∀ u ∈ news, u.oneCell' = true) (hm : 0 < m) (hmx : m ≤ 1000000) (hb : bytes ≤ 1000) :
    ∃ cap es, (execOp ρ o).run P w = .ok (.value (.slice (some ⟨w.heap.size, 0, none⟩) m cap)) (w.drew.alloc (.cells (news ++ es).toArray e)) ∧ m ≤ cap ∧ cap ≤ maxLen := by
  obtain ⟨i, i1, i2, i3, i4⟩ := info_parts hi
  subst i3
  have hsrc := Src.ofSlice (P := P) w (tx := t) ht ⟨g, off, none⟩ m c news hl (fun j u hu => by rw [addr_add]; exact hnews j u hu) h1
  have hr := run_append_grow_src (P := P) w t t o.type e i z ht i1 i2 R 0 0 [] (by cases R <;> simp [Builtin.firstCells, loadCells, loadCellsFrom]) (.slice (some ⟨g, off, none⟩) m c) m news hsrc (by omega) (by omega) (by
    rw [Nat.zero_add, nextslicecap_zero hm, i4]
    exact Nat.le_trans (Nat.mul_le_mul hmx hb) (by omega))
  rw [Nat.zero_add] at hr
  refine ⟨grownCap w m 0 e, (Builtin.zeroCells z.cells (grownCap w m 0 e - m)).toList, ?_, grownCap_ge w m 0 e, grownCap_le_maxLen w m 0 e (by unfold maxLen; omega)⟩
  unfold execOp resolve
  rw [ho]
  simp only [invoke, builtin, Sem.run_bind, Sem.run_pure, Result.andThen_ok, List.map_toArray, List.map_cons, List.map_nil, hs, hx, hr]
  have e1 : (([] ++ news).toArray ++ Builtin.zeroCells z.cells (grownCap w m 0 e - m)) = (news ++ (Builtin.zeroCells z.cells (grownCap w m 0 e - m)).toList).toArray := by
    apply Array.ext'
    simp
  rw [e1]
/-- .. of nothing. -/
theorem x_app_none {s x : Operand} {t e : TypeId} {i : TypeInfo} (ho : o.op = .call { callee := .builtin .append, args := #[s, x], argTypes := #[t, t] }) (ht : P.underlying t = some (.slice e)) (hi : P.info? e = some i)
    {R S : Option Addr} {q c : Nat} (hs : ρ s = .slice R 0 q) (hx : ρ x = .slice S 0 c) : (execOp ρ o).run P w = .ok (.value (.slice R 0 q)) w := by
  have hrun := run_append_nothing (P := P) w t t o.type e i ht hi R 0 q (Nat.zero_le _) (.slice S 0 c)
    ⟨.inl ⟨_, ht⟩, fun w' => by cases S <;> simp [Builtin.lenOf], by cases S <;> simp [Builtin.firstCells, loadCells, loadCellsFrom], by cases S <;> simp [Builtin.firstCells, loadCells, loadCellsFrom], by simp, by simp⟩
  unfold execOp resolve
  simp only [ho, invoke, builtin, Sem.run_bind, Sem.run_pure, Result.andThen_ok, List.map_toArray, List.map_cons, List.map_nil, hs, hx, hrun]
end
section
variable {P : Program} {ρ : Operand → Value} {o : Oper} {w : World} {G : Value → World → Prop}
theorem xe_app_new {s x : Operand} {t e : TypeId} {z : Value} {size bytes : Nat} (ho : o.op = .call { callee := .builtin .append, args := #[s, x], argTypes := #[t, t] }) (ht : P.underlying t = some (.slice e)) (hi : (P.info? e).map (fun i => (i.zero, i.size, i.bytes)) = some (some z, size, bytes))
    {R : Option Addr} (hs : ρ s = .slice R 0 0) {g off m c : Nat} (hx : ρ x = .slice (some ⟨g, off, none⟩) m c) (news : List Value) (hl : news.length = m * size) (hnews : ∀ (j : Nat) u, news[j]? = some u → w.cell? ⟨g, off + j, none⟩ = some u) (h1 : ∀ u ∈ news, u.oneCell' = true) (hm : 0 < m) (hmx : m ≤ 1000000) (hb : bytes ≤ 1000)
    (hG : ∀ cap es, m ≤ cap → cap ≤ maxLen → G (.slice (some ⟨w.heap.size, 0, none⟩) m cap) (w.drew.alloc (.cells (news ++ es).toArray e))) : ∃ y w', (execOp ρ o).run P w = .ok (.value y) w' ∧ G y w' := by
  obtain ⟨cap, es, hr, h2, h3⟩ := x_app_new ho ht hi hs hx news hl hnews h1 hm hmx hb
  exact ⟨_, _, hr, hG cap es h2 h3⟩
theorem xe_ex {y : Value} {w' : World} (hr : (execOp ρ o).run P w = .ok (.value y) w') (hG : G y w') : ∃ y w', (execOp ρ o).run P w = .ok (.value y) w' ∧ G y w' := ⟨_, _, hr, hG⟩
end
theorem drew_alloc_below (w : World) (ob : Obj) : Below w.heap.size w (w.drew.alloc ob) := (show Below w.heap.size w w.drew from ⟨rfl, rfl, rfl, Nat.le_refl _, fun _ _ => rfl⟩).alloc (Nat.le_refl _) ob
/-- A slice without elements, in a block of one's own. -/
def noV (t : TypeId) (b0 : Nat) : Value → World → Prop := fun u w => ∃ p, u = .slice (some ⟨p, 0, none⟩) 0 0 ∧ b0 ≤ p ∧ Blk w p t []
theorem noV.st (t : TypeId) (b0 : Nat) : StV (noV t b0) := fun _ _ _ ⟨p, h1, h2, h3⟩ hb => ⟨p, h1, h2, h3.below hb h3.lt⟩
/-- A slice of so many elements, whose cells are known. -/
def rowV' (t : TypeId) (b0 m : Nat) (cs : List Value) : Value → World → Prop := fun u w => ∃ g cap es, u = .slice (some ⟨g, 0, none⟩) m cap ∧ b0 ≤ g ∧ m ≤ cap ∧ cap ≤ maxLen ∧ Blk w g t (cs ++ es)
theorem rowV'.st (t : TypeId) (b0 m : Nat) (cs : List Value) : StV (rowV' t b0 m cs) := fun _ _ _ ⟨g, c, es, h1, h2, h3, h4, h5⟩ hb => ⟨g, c, es, h1, h2, h3, h4, h5.below hb h5.lt⟩
section
variable {P : Program} {ρ : Operand → Value} {o : Oper} {w : World} {G : Value → World → Prop}
/-- 'append(own, x..)'. -/
theorem xe_app_own {s x : Operand} {t e base : Nat} {z : Value} {size bytes : Nat} (ho : o.op = .call { callee := .builtin .append, args := #[s, x], argTypes := #[t, t] }) (ht : P.underlying t = some (.slice e)) (hi : (P.info? e).map (fun i => (i.zero, i.size, i.bytes)) = some (some z, size, bytes)) (hzs : z.cells.size = size) (hsz : 0 < size)
    {v : Value} {n : Nat} {xs : List Value} (hs : ρ s = v) (hown : w.ownsRow base e size v n xs) {g off m c : Nat} (hx : ρ x = .slice (some ⟨g, off, none⟩) m c) (news : List Value) (hl : news.length = m * size) (hnews : ∀ (j : Nat) u, news[j]? = some u → w.cell? ⟨g, off + j, none⟩ = some u) (h1 : ∀ u ∈ news, u.oneCell' = true) (hm : 0 < m) (hmx : n + m ≤ 1000000) (hb : bytes ≤ 1000) (hbase : base ≤ w.heap.size)
    (hG : ∀ g' cap w', w'.ownsRow base e size (.slice (some ⟨g', 0, none⟩) (n + m) cap) (n + m) (xs ++ news) → Only v.ownBlock.toList w w' → (v.ownBlock = some g' ∨ g' = w.heap.size) → G (.slice (some ⟨g', 0, none⟩) (n + m) cap) w') : ∃ y w', (execOp ρ o).run P w = .ok (.value y) w' ∧ G y w' := by
  obtain ⟨i, i1, i2, i3, i4⟩ := info_parts hi
  obtain ⟨g', cap, w', hr, g1, g2, g3, g4⟩ := run_append_lies (P := P) w t o.type base e i z size bytes ht i1 i2 i3 i4 hzs hsz v n xs hown ⟨g, off, none⟩ m c news hl (fun j u hu => by rw [addr_add]; exact hnews j u hu) h1 hm (by unfold maxLen; omega) (Nat.le_trans (Nat.mul_le_mul hmx hb) (by omega)) hbase _ rfl
  refine ⟨_, w', ?_, hG g' cap w' g1 ((Only.refl _ w).grown g2 (fun k hk => .inl (by rw [hk]; simp))) g3⟩
  unfold execOp resolve
  simp only [ho, invoke, builtin, Sem.run_bind, Sem.run_pure, Result.andThen_ok, List.map_toArray, List.map_cons, List.map_nil, hs, hx, hr]
/-- A value of one cell into a block that is known. -/
theorem r_store1 {t b x tt : Nat} {v : Value} {cs : List Value} (hi : (P.info? t).map (·.size) = some 1) (h1 : v.oneCell' = true) (hv : v.cells = #[v]) (hb : Blk w b tt cs) (hx : x < cs.length) : (Instr.storeAt t (.pointer (some ⟨b, x, none⟩)) v).run P w = .ok () (w.setCells b x [v]) := by
  have hst := run_storeCells_cells (P := P) b x [v] 0 w (fun j hj => by
    simp at hj
    subst hj
    show (w.cell? ⟨b, x, none⟩).isSome = true
    rw [hb.cell, List.getElem?_eq_getElem hx]
    rfl) (fun j hj => hb.frozen _) (fun u hu => by simp at hu; subst hu; exact h1)
  rw [Nat.add_zero] at hst
  cases hq : P.info? t with
  | none => simp [hq] at hi
  | some i =>
    have hs : i.size = 1 := by simpa [hq] using hi
    simp only [Instr.storeAt, Instr.sureAddr, Sem.run_bind, Sem.run_pure, Result.andThen_ok, storeVar, sizeOf, typeInfo, run_program, hq, hs, hv]
    simp [hst]
end
theorem over_one {cs : List Value} {x : Nat} {v : Value} (h : x < cs.length) : over cs x [v] = cs.set x v := by
  unfold over
  rw [show [v].length = 1 from rfl, List.set_eq_take_append_cons_drop, if_pos h, List.append_assoc]
  rfl
theorem store_only (w : World) (b x : Nat) (v : Value) : Only [b] w (w.setCells b x [v]) := Only.setCells [v] b x (Only.refl _ _) (.inl (by simp))
theorem store_blk {w : World} {b tt x : Nat} {cs : List Value} {v : Value} (h : Blk w b tt cs) (hx : x < cs.length) : Blk (w.setCells b x [v]) b tt (cs.set x v) := by
  rw [← over_one hx]
  exact h.setCells [v] x (by simp; omega)
/-- A row of one's own, in no block of these. -/
def ownW (N e n : Nat) (xs : List Value) (bad : List Nat) : Value → World → Prop := fun u w => w.ownsRow N e 1 u n xs ∧ ∀ k, u.ownBlock = some k → k ∉ bad
theorem ownW.only {N e n : Nat} {xs : List Value} {bad S : List Nat} {u : Value} {w w' : World} (h : ownW N e n xs bad u w) (ho : Only S w w') (hS : ∀ k ∈ S, k < w.heap.size → k ∈ bad) : ownW N e n xs bad u w' := by
  exact ⟨ownsRow_only h.1 ho (fun k hk hm => h.2 k hk (hS k hm (h.1.lt k hk).2)), h.2⟩
/-- The rule for a region with a chain, by words and by the blocks that each operation may turn. -/
theorem wp_region_chainQ {P : Program} {ops : Array Oper} {Q : Exit → Act → World → Prop} {a0 : Act} (chain : List Nat) (ds : List (Option Tmp)) (fs : List (Value → World → Prop)) (X : Nat → List Nat) (R : Nat → World → Prop) (n : Nat) {id : Nat} {w : World} (hm : P.follows .mixedOrders = true)
    (hn : ops.size = n) (hds : ops.toList.map (·.dst) = ds) (hq : quickB ds a0.tmps.size = true) (hl : lexA .any ops = true) (ho : ordR .any ops chain = true) (hR : R 0 w.drew)
    (hst : ∀ i k v w w', k ≠ i → LV fs i v w → Only (X k) w w' → LV fs i v w')
    (hstep : QuickR ds a0 → ∀ i, i < n → StepP P .any ops Q chain ds (LV fs) R (fun k a b => Only (X k) a b) a0 i)
    (hfin : ∀ (v : Nat → Value) (wx : World), R chain.length wx → (∀ i, i < n → LV fs i v wx) → Q .normal (fillR ds v 0 a0) wx) : (Code.region id ops true).wp P Q a0 w :=
  wp_region_chain chain ds (LV fs) R (fun k a b => Only (X k) a b) n hm hn hds (QuickR.of hq).ap hl ho hR (fun i v j x w h hj => LV.loc i v j x w h hj) hst (hstep (QuickR.of hq)) hfin
theorem own_slice {w : World} {N e s n : Nat} {v : Value} {xs : List Value} (h : w.ownsRow N e s v n xs) : ∃ P c, v = .slice P n c := by
  rcases h.2 with ⟨rfl, rfl⟩ | ⟨g, cap, cur, rfl, _⟩
  · exact ⟨_, _, rfl⟩
  · exact ⟨_, _, rfl⟩
theorem range_two {w : World} {g o : Nat} {x0 x1 : Value} (h0 : w.cell? ⟨g, o, none⟩ = some x0) (h1 : w.cell? ⟨g, o + 1, none⟩ = some x1) : w.rangeAt g o [x0, x1] := by
  intro j v hj
  match j, hj with
  | 0, hj => cases hj; exact h0
  | 1, hj => cases hj; exact h1
  | j + 2, hj => simp at hj
end Go.Proofs.Ytammomjnigalbaa
