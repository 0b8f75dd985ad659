/-
  A region that draws its order, by what each operation leaves: whatever the order, behind each operation its own word holds, and the words of those that came ahead still do. Conditions: those of the theorem.
-/
import Derived.Deep.RegionHeld3
set_option maxRecDepth 100000
set_option linter.unusedSimpArgs false
set_option linter.unusedVariables false
namespace Go.Proofs.Ytammomjnigalbaa

/-- The slots of a region's operations, filled with v. -/
def fillR : List (Option Tmp) → (Nat → Value) → Nat → Act → Act
  | [], _, _, a => a
  | d :: ds, v, k, a => fillR ds v (k + 1) (a.put d (v k))
def setV (v : Nat → Value) (i : Nat) (x : Value) : Nat → Value := fun j => if j = i then x else v j
/-- No two operations write one slot. -/
def apartR : List (Option Tmp) → Bool
  | [] => true
  | none :: ds => apartR ds
  | some d :: ds => !(ds.contains (some d)) && apartR ds
/-- Each operation waits for earlier ones alone. -/
def lexR (ops : Array Oper) : Bool := (List.range ops.size).all fun i => match ops[i]? with | some o => o.after.all fun e => decide (e.on < i) | none => true

theorem put_put (a : Act) (d : Option Tmp) (x y : Value) : (a.put d x).put d y = a.put d y := by
  cases d with
  | none => rfl
  | some d => simp [Act.put]
theorem put_own (a : Act) (d : Tmp) : a.put (some d) (a.tmps.getD d undef) = a := by
  obtain ⟨t, ds⟩ := a
  simp only [Act.put]
  congr 1
  apply Array.ext
  · simp
  · intro i h1 h2
    by_cases h : d = i
    · subst h
      have : d < t.size := h2
      simp [this]
    · rw [Array.getElem_setIfInBounds_ne (by assumption) h]
theorem put_through : ∀ (ds : List (Option Tmp)) (v : Nat → Value) (k : Nat) (a : Act) (d : Option Tmp) (x : Value), (∀ t, d = some t → some t ∉ ds) → (fillR ds v k a).put d x = fillR ds v k (a.put d x)
  | [], _, _, _, _, _, _ => rfl
  | d' :: ds, v, k, a, d, x, h => by
    unfold fillR
    rw [put_through ds v (k + 1) (a.put d' (v k)) d x (fun t ht hm => h t ht (List.mem_cons_of_mem _ hm))]
    rw [Act.put_comm a (v k) x (fun t ht hd => h t hd (by rw [ht]; exact List.mem_cons_self))]
theorem fill_past : ∀ (ds : List (Option Tmp)) (v v' : Nat → Value) (k : Nat) (a : Act), (∀ j, k ≤ j → v j = v' j) → fillR ds v k a = fillR ds v' k a
  | [], _, _, _, _, _ => rfl
  | d :: ds, v, v', k, a, h => by
    unfold fillR
    rw [h k (Nat.le_refl _)]
    exact fill_past ds v v' (k + 1) _ (fun j hj => h j (by omega))
theorem put_fill : ∀ (ds : List (Option Tmp)), apartR ds = true → ∀ (v : Nat → Value) (k : Nat) (a : Act) (i : Nat) (d : Option Tmp) (x : Value), ds[i]? = some d → (fillR ds v k a).put d x = fillR ds (setV v (k + i) x) k a
  | [], _, _, _, _, _, _, _, h => by simp at h
  | d' :: ds, hn, v, k, a, 0, d, x, h => by
    simp only [List.getElem?_cons_zero, Option.some.injEq] at h
    subst h
    unfold fillR
    rw [put_through ds v (k + 1) _ d' x (fun t ht hm => by
      subst ht
      simp only [apartR, Bool.and_eq_true, Bool.not_eq_true', List.contains_eq_mem, decide_eq_false_iff_not] at hn
      exact hn.1 hm), put_put]
    have e : setV v (k + 0) x k = x := by simp [setV]
    rw [e]
    exact fill_past ds v _ (k + 1) _ (fun j hj => by simp [setV]; omega)
  | d' :: ds, hn, v, k, a, i + 1, d, x, h => by
    simp only [List.getElem?_cons_succ] at h
    have hn' : apartR ds = true := by
      cases d' with
      | none => exact hn
      | some t => simp only [apartR, Bool.and_eq_true] at hn; exact hn.2
    unfold fillR
    rw [put_fill ds hn' v (k + 1) (a.put d' (v k)) i d x h]
    have e : setV v (k + (i + 1)) x k = v k := by simp [setV]
    rw [e, show k + 1 + i = k + (i + 1) by omega]
theorem fill_start (a : Act) : ∀ (ds : List (Option Tmp)) (k : Nat) (v : Nat → Value), (∀ i t, ds[i]? = some (some t) → v (k + i) = a.tmps.getD t undef) → fillR ds v k a = a
  | [], _, _, _ => rfl
  | none :: ds, k, v, h => by
    unfold fillR
    exact fill_start a ds (k + 1) v (fun i t ht => by rw [show k + 1 + i = k + (i + 1) by omega]; exact h (i + 1) t (by simpa using ht))
  | some t :: ds, k, v, h => by
    unfold fillR
    rw [show v k = a.tmps.getD t undef from h 0 t (by simp), put_own]
    exact fill_start a ds (k + 1) v (fun i t ht => by rw [show k + 1 + i = k + (i + 1) by omega]; exact h (i + 1) t (by simpa using ht))

/-- How many operations are still to come up. -/
def leftR (listed : Array Bool) : Nat := listed.toList.countP (fun b => !b)
theorem count_set : ∀ (l : List Bool) (i : Nat), l[i]? = some false → (l.set i true).countP (fun b => !b) + 1 = l.countP (fun b => !b)
  | [], _, h => by simp at h
  | b :: l, 0, h => by
    simp only [List.getElem?_cons_zero, Option.some.injEq] at h
    subst h
    simp [List.countP_cons]
  | b :: l, i + 1, h => by
    simp only [List.getElem?_cons_succ] at h
    have := count_set l i h
    simp only [List.set_cons_succ, List.countP_cons]
    omega
theorem leftR_set {listed : Array Bool} {i : Nat} (h : listed.getD i true = false) : leftR (listed.setIfInBounds i true) + 1 = leftR listed := by
  have hi : i < listed.size := by
    rcases Nat.lt_or_ge i listed.size with h' | h'
    · exact h'
    · simp [Array.getElem?_eq_none h'] at h
  have hf : listed.toList[i]? = some false := by simpa [hi] using h
  unfold leftR
  rw [Array.toList_setIfInBounds]
  exact count_set _ _ hf

section
variable {P : Program} {ops : Array Oper} {Q : Exit → Act → World → Prop} {md : Region.Mode}

theorem all_listed (hl : lexR ops = true) {listed : Array Bool} (hs : listed.size = ops.size) (hr : Region.ready md ops listed = []) : ∀ i, i < ops.size → listed.getD i false = true := by
  intro i
  induction i using Nat.strongRecOn with
  | ind i ih =>
    intro hi
    cases hb : listed.getD i false with
    | true => rfl
    | false =>
      exfalso
      have hm : i ∈ Region.ready md ops listed := by
        rw [mem_ready]
        refine ⟨by simpa [hs, hi] using hb, ops[i], by simp [hi], fun e he _ => ?_⟩
        have := List.all_eq_true.1 hl i (List.mem_range.2 hi)
        rw [Array.getElem?_eq_getElem hi] at this
        simp only [Array.all_eq_true_iff_forall_mem, decide_eq_true_eq] at this
        have hlt := this e he
        exact ih e.on hlt (by omega)
      rw [hr] at hm
      cases hm

/-- The rule. V i x w: what operation i's value x is good for in w; it is kept by Rel. R: what holds of the world all along. -/
theorem wpAny_inv (ds : List (Option Tmp)) (hds : ops.toList.map (·.dst) = ds) (hap : apartR ds = true) (hl : lexR ops = true)
    (V : Nat → Value → World → Prop) (R : World → Prop) (Rel : World → World → Prop) (a0 : Act)
    (hst : ∀ i x w w', V i x w → Rel w w' → V i x w')
    (hstep : ∀ i o, ops[i]? = some o → ∀ (v : Nat → Value) (w : World), R w → (∀ e ∈ o.after, Region.binds md e = true → V e.on (v e.on) w) →
      ∀ K : Act → World → Prop, Shut (∀ x w', R w' → Rel w w' → V i x w' → K ((fillR ds v 0 a0).put o.dst x) w') →
        if Region.wanted o (yielded ops (fillR ds v 0 a0).tmps) = true then Oper.wp P o (fillR ds v 0 a0) w K Q else K ((fillR ds v 0 a0).put o.dst undef) w)
    (hfin : ∀ (v : Nat → Value) (w : World), R w → (∀ i, i < ops.size → V i (v i) w) → Q .normal (fillR ds v 0 a0) w) :
    ∀ (fuel : Nat) (listed : Array Bool) (v : Nat → Value) (w : World), listed.size = ops.size → leftR listed ≤ fuel → R w → (∀ i, listed.getD i false = true → V i (v i) w) →
      wpAny P md ops Q fuel listed (fillR ds v 0 a0) w := by
  intro fuel
  induction fuel with
  | zero =>
    intro listed v w hs hf hR hV
    have hall : ∀ i, i < ops.size → listed.getD i false = true := by
      intro i hi
      cases hb : listed.getD i false with
      | true => rfl
      | false =>
        have h' : listed.getD i true = false := by simpa [hs, hi] using hb
        have := leftR_set h'
        omega
    refine ⟨?_, hfin v w hR (fun i hi => hV i (hall i hi))⟩
    cases hr : Region.ready md ops listed with
    | nil => rfl
    | cons i rs =>
      have hm : i ∈ Region.ready md ops listed := by rw [hr]; simp
      obtain ⟨h0, o, ho, _⟩ := mem_ready.1 hm
      have hi := (Array.getElem?_eq_some_iff.1 ho).1
      have := hall i hi
      simp [hs, hi] at this h0
      rw [this] at h0
      cases h0
  | succ fuel ih =>
    intro listed v w hs hf hR hV
    refine ⟨fun hr => hfin v w hR (fun i hi => hV i (all_listed hl hs hr i hi)), fun i hi => ?_⟩
    obtain ⟨h0, o, ho, hall⟩ := mem_ready.1 hi
    have hil := (Array.getElem?_eq_some_iff.1 ho).1
    refine wpOp_step ho fun K hK => hstep i o ho v w hR (fun e he hb => hV e.on (hall e he hb)) K ?_
    intro x w' hR' hrel hV'
    refine hK _ _ ?_
    have hd : ds[i]? = some o.dst := by
      rw [← hds, List.getElem?_map]
      have : ops.toList[i]? = some o := by simpa using ho
      rw [this]
      rfl
    rw [put_fill ds hap v 0 a0 i o.dst x hd, Nat.zero_add]
    refine ih _ _ _ (by simpa using hs) (by have := leftR_set h0; omega) hR' fun j hj => ?_
    by_cases hji : j = i
    · subst hji
      simpa [setV] using hV'
    · have : listed.getD j false = true := by rw [getD_set_ne false (Ne.symm hji)] at hj; exact hj
      have hvj := hst j _ _ _ (hV j this) hrel
      simpa [setV, hji] using hvj

theorem wp_region_inv (ds : List (Option Tmp)) (V : Nat → Value → World → Prop) (R : World → Prop) (Rel : World → World → Prop) {id : Nat} {a0 : Act} {w : World} (hm : P.follows .mixedOrders = true)
    (hds : ops.toList.map (·.dst) = ds) (hap : apartR ds = true) (hl : lexR ops = true) (hR : R w.drew)
    (hst : ∀ i x w w', V i x w → Rel w w' → V i x w')
    (hstep : ∀ i o, ops[i]? = some o → ∀ (v : Nat → Value) (w : World), R w → (∀ e ∈ o.after, Region.binds .any e = true → V e.on (v e.on) w) →
      ∀ K : Act → World → Prop, Shut (∀ x w', R w' → Rel w w' → V i x w' → K ((fillR ds v 0 a0).put o.dst x) w') →
        if Region.wanted o (yielded ops (fillR ds v 0 a0).tmps) = true then Oper.wp P o (fillR ds v 0 a0) w K Q else K ((fillR ds v 0 a0).put o.dst undef) w)
    (hfin : ∀ (v : Nat → Value) (w : World), R w → (∀ i, i < ops.size → V i (v i) w) → Q .normal (fillR ds v 0 a0) w) : (Code.region id ops true).wp P Q a0 w := by
  refine wp_region_any hm ?_
  have hfill : fillR ds (fun i => match ds[i]? with | some (some t) => a0.tmps.getD t undef | _ => undef) 0 a0 = a0 := by
    refine fill_start a0 ds 0 _ (fun i t ht => ?_)
    simp only [Nat.zero_add, ht]
  have := wpAny_inv (P := P) (Q := Q) (md := .any) ds hds hap hl V R Rel a0 hst hstep hfin ops.size (Array.replicate ops.size false) (fun i => match ds[i]? with | some (some t) => a0.tmps.getD t undef | _ => undef) w.drew (by simp) ?_ hR ?_
  · rw [hfill] at this
    exact this
  · unfold leftR
    refine Nat.le_trans List.countP_le_length ?_
    simp
  · intro i hi
    exfalso
    rcases Nat.lt_or_ge i ops.size with h' | h'
    · simp [h'] at hi
    · simp [Nat.not_lt.2 h'] at hi

/-- One operation's step: from R and the words of those that it waits for. -/
def StepR (P : Program) (ops : Array Oper) (Q : Exit → Act → World → Prop) (ds : List (Option Tmp)) (V : Nat → Value → World → Prop) (R : World → Prop) (Rel : World → World → Prop) (a0 : Act) (i : Nat) : Prop :=
  ∀ o, ops[i]? = some o → ∀ (v : Nat → Value) (w : World), R w → (∀ e ∈ o.after, Region.binds .any e = true → V e.on (v e.on) w) →
    ∀ K : Act → World → Prop, Shut (∀ x w', R w' → Rel w w' → V i x w' → K ((fillR ds v 0 a0).put o.dst x) w') →
      if Region.wanted o (yielded ops (fillR ds v 0 a0).tmps) = true then Oper.wp P o (fillR ds v 0 a0) w K Q else K ((fillR ds v 0 a0).put o.dst undef) w
theorem StepR.of {ds : List (Option Tmp)} {V : Nat → Value → World → Prop} {R : World → Prop} {Rel : World → World → Prop} {a0 : Act} {i : Nat} {o : Oper} (ho : ops[i]? = some o) (deps : List Nat)
    (hd : (o.after.toList.filter (Region.binds .any)).map (·.on) = deps)
    (h : ∀ (v : Nat → Value) (w : World), R w → (∀ j ∈ deps, V j (v j) w) → ∀ K : Act → World → Prop, Shut (∀ x w', R w' → Rel w w' → V i x w' → K ((fillR ds v 0 a0).put o.dst x) w') →
      if Region.wanted o (yielded ops (fillR ds v 0 a0).tmps) = true then Oper.wp P o (fillR ds v 0 a0) w K Q else K ((fillR ds v 0 a0).put o.dst undef) w) : StepR P ops Q ds V R Rel a0 i := by
  intro o' ho' v w hR hdep K hK
  rw [ho] at ho'
  cases ho'
  refine h v w hR (fun j hj => ?_) K hK
  subst hd
  obtain ⟨e, he, rfl⟩ := List.mem_map.1 hj
  obtain ⟨h1, h2⟩ := List.mem_filter.1 he
  exact hdep e (by simpa using h1) h2
theorem wp_region_steps (ds : List (Option Tmp)) (V : Nat → Value → World → Prop) (R : World → Prop) (Rel : World → World → Prop) (n : Nat) {id : Nat} {a0 : Act} {w : World} (hm : P.follows .mixedOrders = true)
    (hn : ops.size = n) (hds : ops.toList.map (·.dst) = ds) (hap : apartR ds = true) (hl : lexR ops = true) (hR : R w.drew)
    (hst : ∀ i x w w', V i x w → Rel w w' → V i x w')
    (hstep : ∀ i, i < n → StepR P ops Q ds V R Rel a0 i)
    (hfin : ∀ (v : Nat → Value) (w : World), R w → (∀ i, i < n → V i (v i) w) → Q .normal (fillR ds v 0 a0) w) : (Code.region id ops true).wp P Q a0 w := by
  subst hn
  refine wp_region_inv ds V R Rel hm hds hap hl hR hst (fun i o ho => ?_) hfin
  exact hstep i (Array.getElem?_eq_some_iff.1 ho).1 o ho
end
/-! The same, where the word of an operation may look at the values of others that it waits for, and each operation leaves what it leaves. -/
theorem getD_set_mono {listed : Array Bool} {i j : Nat} (h : listed.getD j false = true) : (listed.setIfInBounds i true).getD j false = true := by
  by_cases hji : j = i
  · subst hji
    have hj : j < listed.size := by
      rcases Nat.lt_or_ge j listed.size with h' | h'
      · exact h'
      · simp [Array.getElem?_eq_none h'] at h
    simp [hj]
  · rw [getD_set_ne false (Ne.symm hji)]
    exact h
theorem getD_set_own {listed : Array Bool} {i : Nat} (h : listed.getD i true = false) : (listed.setIfInBounds i true).getD i false = true := by
  have hi : i < listed.size := by
    rcases Nat.lt_or_ge i listed.size with h' | h'
    · exact h'
    · simp [Array.getElem?_eq_none h'] at h
  simp [hi]
section
variable {P : Program} {ops : Array Oper} {Q : Exit → Act → World → Prop} {md : Region.Mode}
/-- One operation's step. -/
def StepL (P : Program) (md : Region.Mode) (ops : Array Oper) (Q : Exit → Act → World → Prop) (ds : List (Option Tmp)) (V : Nat → (Nat → Value) → World → Prop) (R : World → Prop) (Rel : Nat → World → World → Prop) (a0 : Act) (i : Nat) : Prop :=
  ∀ o, ops[i]? = some o → ∀ (v : Nat → Value) (w : World), R w → (∀ e ∈ o.after, Region.binds md e = true → V e.on v w) →
    ∀ K : Act → World → Prop, Shut (∀ x w', R w' → Rel i w w' → V i (setV v i x) w' → K ((fillR ds v 0 a0).put o.dst x) w') →
      if Region.wanted o (yielded ops (fillR ds v 0 a0).tmps) = true then Oper.wp P o (fillR ds v 0 a0) w K Q else K ((fillR ds v 0 a0).put o.dst undef) w
/-- Does operation i wait for each of these? -/
def waitsR (md : Region.Mode) (ops : Array Oper) (i : Nat) (look : List Nat) : Bool := match ops[i]? with | some o => look.all fun j => o.after.any fun e => Region.binds md e && e.on == j | none => true

theorem StepL.of {ds : List (Option Tmp)} {V : Nat → (Nat → Value) → World → Prop} {R : World → Prop} {Rel : Nat → World → World → Prop} {a0 : Act} {i : Nat} {o : Oper} (ho : ops[i]? = some o) (deps : List Nat)
    (hd : waitsR md ops i deps = true)
    (h : ∀ (v : Nat → Value) (w : World), R w → (∀ j ∈ deps, V j v w) → ∀ K : Act → World → Prop, Shut (∀ x w', R w' → Rel i w w' → V i (setV v i x) w' → K ((fillR ds v 0 a0).put o.dst x) w') →
      if Region.wanted o (yielded ops (fillR ds v 0 a0).tmps) = true then Oper.wp P o (fillR ds v 0 a0) w K Q else K ((fillR ds v 0 a0).put o.dst undef) w) : StepL P md ops Q ds V R Rel a0 i := by
  intro o' ho' v w hR hdep K hK
  rw [ho] at ho'
  cases ho'
  refine h v w hR (fun j hj => ?_) K hK
  unfold waitsR at hd
  rw [ho] at hd
  have := List.all_eq_true.1 hd j hj
  obtain ⟨q, hq, he⟩ := Array.any_eq_true.1 this
  simp only [Bool.and_eq_true, beq_iff_eq] at he
  have := hdep o.after[q] (Array.getElem_mem _) he.1
  rwa [he.2] at this

theorem wpAny_look (ds : List (Option Tmp)) (hds : ops.toList.map (·.dst) = ds) (hap : apartR ds = true) (hl : lexR ops = true)
    (V : Nat → (Nat → Value) → World → Prop) (look : Nat → List Nat) (R : World → Prop) (Rel : Nat → World → World → Prop) (a0 : Act)
    (hloc : ∀ i v j x w, V i v w → j ≠ i → j ∉ look i → V i (setV v j x) w)
    (hlook : ∀ i, i < ops.size → waitsR md ops i (look i) = true)
    (hst : ∀ i k v w w', k ≠ i → V i v w → Rel k w w' → V i v w')
    (hstep : ∀ i, i < ops.size → StepL P md ops Q ds V R Rel a0 i)
    (hfin : ∀ (v : Nat → Value) (w : World), R w → (∀ i, i < ops.size → V i v w) → Q .normal (fillR ds v 0 a0) w) :
    ∀ (fuel : Nat) (listed : Array Bool) (v : Nat → Value) (w : World), listed.size = ops.size → leftR listed ≤ fuel → R w → (∀ i, listed.getD i false = true → V i v w ∧ ∀ j ∈ look i, listed.getD j false = true) →
      wpAny P md ops Q fuel listed (fillR ds v 0 a0) w := by
  intro fuel
  induction fuel with
  | zero =>
    intro listed v w hs hf hR hV
    have hall : ∀ i, i < ops.size → listed.getD i false = true := by
      intro i hi
      cases hb : listed.getD i false with
      | true => rfl
      | false =>
        have h' : listed.getD i true = false := by simpa [hs, hi] using hb
        have := leftR_set h'
        omega
    refine ⟨?_, hfin v w hR (fun i hi => (hV i (hall i hi)).1)⟩
    cases hr : Region.ready md ops listed with
    | nil => rfl
    | cons i rs =>
      have hm : i ∈ Region.ready md ops listed := by rw [hr]; simp
      obtain ⟨h0, o, ho, _⟩ := mem_ready.1 hm
      have hi := (Array.getElem?_eq_some_iff.1 ho).1
      have := hall i hi
      simp [hs, hi] at this h0
      rw [this] at h0
      cases h0
  | succ fuel ih =>
    intro listed v w hs hf hR hV
    refine ⟨fun hr => hfin v w hR (fun i hi => (hV i (all_listed hl hs hr i hi)).1), fun i hi => ?_⟩
    obtain ⟨h0, o, ho, hall⟩ := mem_ready.1 hi
    have hil := (Array.getElem?_eq_some_iff.1 ho).1
    refine wpOp_step ho fun K hK => hstep i hil o ho v w hR (fun e he hb => (hV e.on (hall e he hb)).1) K ?_
    intro x w' hR' hrel hV'
    refine hK _ _ ?_
    have hd : ds[i]? = some o.dst := by
      rw [← hds, List.getElem?_map]
      have : ops.toList[i]? = some o := by simpa using ho
      rw [this]
      rfl
    rw [put_fill ds hap v 0 a0 i o.dst x hd, Nat.zero_add]
    refine ih _ _ _ (by simpa using hs) (by have := leftR_set h0; omega) hR' fun j hj => ?_
    by_cases hji : j = i
    · subst hji
      refine ⟨hV', fun k hk => ?_⟩
      have hw := hlook j hil
      unfold waitsR at hw
      rw [ho] at hw
      have := List.all_eq_true.1 hw k hk
      obtain ⟨q, hq, he⟩ := Array.any_eq_true.1 this
      simp only [Bool.and_eq_true, beq_iff_eq] at he
      have hl' := hall o.after[q] (Array.getElem_mem _) he.1
      rw [he.2] at hl'
      exact getD_set_mono hl'
    · have hlj : listed.getD j false = true := by rw [getD_set_ne false (Ne.symm hji)] at hj; exact hj
      obtain ⟨hvj, hlk⟩ := hV j hlj
      refine ⟨hloc j v i x w' (hst j i _ _ _ (Ne.symm hji) hvj hrel) (Ne.symm hji) (fun hi' => ?_), fun k hk => getD_set_mono (hlk k hk)⟩
      have h1 := hlk i hi'
      have hil' : i < listed.size := by omega
      simp [hil'] at h0 h1
      rw [h1] at h0
      cases h0

theorem wp_region_look (ds : List (Option Tmp)) (V : Nat → (Nat → Value) → World → Prop) (look : Nat → List Nat) (R : World → Prop) (Rel : Nat → World → World → Prop) (n : Nat) {id : Nat} {a0 : Act} {w : World} (hm : P.follows .mixedOrders = true)
    (hn : ops.size = n) (hds : ops.toList.map (·.dst) = ds) (hap : apartR ds = true) (hl : lexR ops = true) (hR : R w.drew)
    (hloc : ∀ i v j x w, V i v w → j ≠ i → j ∉ look i → V i (setV v j x) w)
    (hlook : ∀ i, i < n → waitsR .any ops i (look i) = true)
    (hst : ∀ i k v w w', k ≠ i → V i v w → Rel k w w' → V i v w')
    (hstep : ∀ i, i < n → StepL P .any ops Q ds V R Rel a0 i)
    (hfin : ∀ (v : Nat → Value) (w : World), R w → (∀ i, i < n → V i v w) → Q .normal (fillR ds v 0 a0) w) : (Code.region id ops true).wp P Q a0 w := by
  subst hn
  refine wp_region_any hm ?_
  have hfill : fillR ds (fun i => match ds[i]? with | some (some t) => a0.tmps.getD t undef | _ => undef) 0 a0 = a0 := by
    refine fill_start a0 ds 0 _ (fun i t ht => ?_)
    simp only [Nat.zero_add, ht]
  have := wpAny_look (P := P) (Q := Q) (md := .any) ds hds hap hl V look R Rel a0 hloc hlook hst hstep hfin ops.size (Array.replicate ops.size false) (fun i => match ds[i]? with | some (some t) => a0.tmps.getD t undef | _ => undef) w.drew (by simp) ?_ hR ?_
  · rw [hfill] at this
    exact this
  · unfold leftR
    refine Nat.le_trans List.countP_le_length ?_
    simp
  · intro i hi
    exfalso
    rcases Nat.lt_or_ge i ops.size with h' | h'
    · simp [h'] at hi
    · simp [Nat.not_lt.2 h'] at hi
end
end Go.Proofs.Ytammomjnigalbaa
