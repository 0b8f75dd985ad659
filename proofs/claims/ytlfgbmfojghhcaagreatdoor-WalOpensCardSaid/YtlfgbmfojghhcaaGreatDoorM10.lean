/-
  A region that draws its order, by what each operation leaves: whatever the order, behind each operation its own word holds, and the words of those that came ahead still do. Conditions: those of the theorem.
-/
import Derived.Deep.RegionHeld3
import Derived.Test.YtlfgbmfojghhcaaGreatDoorM9
import Derived.Test.YtlfgbmfojghhcaaGreatDoorM6
import Derived.Test.YtlfgbmfojghhcaaGreatDoorM7
section
set_option maxRecDepth 100000
set_option linter.unusedSimpArgs false
set_option linter.unusedVariables false
namespace Go.Proofs.YtlfgbmfojghhcaaGreatDoor

/-- The slots of a region's operations, filled with v. -/
def fillR : List (Option Tmp) → (Nat → Value) → Nat → Act → Act
  | [], _, _, a => a
  | d :: ds, v, k, a => fillR ds v (k + 1) (a.put d (v k))
def setV (v : Nat → Value) (i : Nat) (x : Value) : Nat → Value := fun j => if j = i then x else v j
/-- No two operations write one slot. -/
def apartR : List (Option Tmp) → Bool
  | [] => true
  | none :: ds => apartR ds
  | some d :: ds => !(ds.contains (some d)) && apartR ds
/-- Each operation waits for earlier ones alone. -/
def lexR (ops : Array Oper) : Bool := (List.range ops.size).all fun i => match ops[i]? with | some o => o.after.all fun e => decide (e.on < i) | none => true

theorem put_put (a : Act) (d : Option Tmp) (x y : Value) : (a.put d x).put d y = a.put d y := by
  cases d with
  | none => rfl
  | some d => simp [Act.put]
theorem put_own (a : Act) (d : Tmp) : a.put (some d) (a.tmps.getD d undef) = a := by
  obtain ⟨t, ds⟩ := a
  simp only [Act.put]
  congr 1
  apply Array.ext
  · simp
  · intro i h1 h2
    by_cases h : d = i
    · subst h
      have : d < t.size := h2
      simp [this]
    · rw [Array.getElem_setIfInBounds_ne (by assumption) h]
theorem put_through : ∀ (ds : List (Option Tmp)) (v : Nat → Value) (k : Nat) (a : Act) (d : Option Tmp) (x : Value), (∀ t, d = some t → some t ∉ ds) → (fillR ds v k a).put d x = fillR ds v k (a.put d x)
  | [], _, _, _, _, _, _ => rfl
  | d' :: ds, v, k, a, d, x, h => by
    unfold fillR
    rw [put_through ds v (k + 1) (a.put d' (v k)) d x (fun t ht hm => h t ht (List.mem_cons_of_mem _ hm))]
    rw [Act.put_comm a (v k) x (fun t ht hd => h t hd (by rw [ht]; exact List.mem_cons_self))]
theorem fill_past : ∀ (ds : List (Option Tmp)) (v v' : Nat → Value) (k : Nat) (a : Act), (∀ j, k ≤ j → v j = v' j) → fillR ds v k a = fillR ds v' k a
  | [], _, _, _, _, _ => rfl
  | d :: ds, v, v', k, a, h => by
    unfold fillR
    rw [h k (Nat.le_refl _)]
    exact fill_past ds v v' (k + 1) _ (fun j hj => h j (by omega))
theorem put_fill : ∀ (ds : List (Option Tmp)), apartR ds = true → ∀ (v : Nat → Value) (k : Nat) (a : Act) (i : Nat) (d : Option Tmp) (x : Value), ds[i]? = some d → (fillR ds v k a).put d x = fillR ds (setV v (k + i) x) k a
  | [], _, _, _, _, _, _, _, h => by simp at h
  | d' :: ds, hn, v, k, a, 0, d, x, h => by
    simp only [List.getElem?_cons_zero, Option.some.injEq] at h
    subst h
    unfold fillR
    rw [put_through ds v (k + 1) _ d' x (fun t ht hm => by
      subst ht
      simp only [apartR, Bool.and_eq_true, Bool.not_eq_true', List.contains_eq_mem, decide_eq_false_iff_not] at hn
      exact hn.1 hm), put_put]
    have e : setV v (k + 0) x k = x := by simp [setV]
    rw [e]
    exact fill_past ds v _ (k + 1) _ (fun j hj => by simp [setV]; omega)
  | d' :: ds, hn, v, k, a, i + 1, d, x, h => by
    simp only [List.getElem?_cons_succ] at h
    have hn' : apartR ds = true := by
      cases d' with
      | none => exact hn
      | some t => simp only [apartR, Bool.and_eq_true] at hn; exact hn.2
    unfold fillR
    rw [put_fill ds hn' v (k + 1) (a.put d' (v k)) i d x h]
    have e : setV v (k + (i + 1)) x k = v k := by simp [setV]
    rw [e, show k + 1 + i = k + (i + 1) by omega]
theorem fill_start (a : Act) : ∀ (ds : List (Option Tmp)) (k : Nat) (v : Nat → Value), (∀ i t, ds[i]? = some (some t) → v (k + i) = a.tmps.getD t undef) → fillR ds v k a = a
  | [], _, _, _ => rfl
  | none :: ds, k, v, h => by
    unfold fillR
    exact fill_start a ds (k + 1) v (fun i t ht => by rw [show k + 1 + i = k + (i + 1) by omega]; exact h (i + 1) t (by simpa using ht))
  | some t :: ds, k, v, h => by
    unfold fillR
    rw [show v k = a.tmps.getD t undef from h 0 t (by simp), put_own]
    exact fill_start a ds (k + 1) v (fun i t ht => by rw [show k + 1 + i = k + (i + 1) by omega]; exact h (i + 1) t (by simpa using ht))

/-- How many operations are still to come up. -/
def leftR (listed : Array Bool) : Nat := listed.toList.countP (fun b => !b)
theorem count_set : ∀ (l : List Bool) (i : Nat), l[i]? = some false → (l.set i true).countP (fun b => !b) + 1 = l.countP (fun b => !b)
  | [], _, h => by simp at h
  | b :: l, 0, h => by
    simp only [List.getElem?_cons_zero, Option.some.injEq] at h
    subst h
    simp [List.countP_cons]
  | b :: l, i + 1, h => by
    simp only [List.getElem?_cons_succ] at h
    have := count_set l i h
    simp only [List.set_cons_succ, List.countP_cons]
    omega
theorem leftR_set {listed : Array Bool} {i : Nat} (h : listed.getD i true = false) : leftR (listed.setIfInBounds i true) + 1 = leftR listed := by
  have hi : i < listed.size := by
    rcases Nat.lt_or_ge i listed.size with h' | h'
    · exact h'
    · simp [Array.getElem?_eq_none h'] at h
  have hf : listed.toList[i]? = some false := by simpa [hi] using h
  unfold leftR
  rw [Array.toList_setIfInBounds]
  exact count_set _ _ hf

section
variable {P : Program} {ops : Array Oper} {Q : Exit → Act → World → Prop} {md : Region.Mode}

theorem all_listed (hl : lexR ops = true) {listed : Array Bool} (hs : listed.size = ops.size) (hr : Region.ready md ops listed = []) : ∀ i, i < ops.size → listed.getD i false = true := by
  intro i
  induction i using Nat.strongRecOn with
  | ind i ih =>
    intro hi
    cases hb : listed.getD i false with
    | true => rfl
    | false =>
      exfalso
      have hm : i ∈ Region.ready md ops listed := by
        rw [mem_ready]
        refine ⟨by simpa [hs, hi] using hb, ops[i], by simp [hi], fun e he _ => ?_⟩
        have := List.all_eq_true.1 hl i (List.mem_range.2 hi)
        rw [Array.getElem?_eq_getElem hi] at this
        simp only [Array.all_eq_true_iff_forall_mem, decide_eq_true_eq] at this
        have hlt := this e he
        exact ih e.on hlt (by omega)
      rw [hr] at hm
      cases hm

/-- The rule. V i x w: what operation i's value x is good for in w; it is kept by Rel. R: what holds of the world all along. -/
theorem wpAny_inv (ds : List (Option Tmp)) (hds : ops.toList.map (·.dst) = ds) (hap : apartR ds = true) (hl : lexR ops = true)
    (V : Nat → Value → World → Prop) (R : World → Prop) (Rel : World → World → Prop) (a0 : Act)
    (hst : ∀ i x w w', V i x w → Rel w w' → V i x w')
    (hstep : ∀ i o, ops[i]? = some o → ∀ (v : Nat → Value) (w : World), R w → (∀ e ∈ o.after, Region.binds md e = true → V e.on (v e.on) w) →
      ∀ K : Act → World → Prop, Shut (∀ x w', R w' → Rel w w' → V i x w' → K ((fillR ds v 0 a0).put o.dst x) w') →
        if Region.wanted o (yielded ops (fillR ds v 0 a0).tmps) = true then Oper.wp P o (fillR ds v 0 a0) w K Q else K ((fillR ds v 0 a0).put o.dst undef) w)
    (hfin : ∀ (v : Nat → Value) (w : World), R w → (∀ i, i < ops.size → V i (v i) w) → Q .normal (fillR ds v 0 a0) w) :
    ∀ (fuel : Nat) (listed : Array Bool) (v : Nat → Value) (w : World), listed.size = ops.size → leftR listed ≤ fuel → R w → (∀ i, listed.getD i false = true → V i (v i) w) →
      wpAny P md ops Q fuel listed (fillR ds v 0 a0) w := by
  intro fuel
  induction fuel with
  | zero =>
    intro listed v w hs hf hR hV
    have hall : ∀ i, i < ops.size → listed.getD i false = true := by
      intro i hi
      cases hb : listed.getD i false with
      | true => rfl
      | false =>
        have h' : listed.getD i true = false := by simpa [hs, hi] using hb
        have := leftR_set h'
        omega
    refine ⟨?_, hfin v w hR (fun i hi => hV i (hall i hi))⟩
    cases hr : Region.ready md ops listed with
    | nil => rfl
    | cons i rs =>
      have hm : i ∈ Region.ready md ops listed := by rw [hr]; simp
      obtain ⟨h0, o, ho, _⟩ := mem_ready.1 hm
      have hi := (Array.getElem?_eq_some_iff.1 ho).1
      have := hall i hi
      simp [hs, hi] at this h0
      rw [this] at h0
      cases h0
  | succ fuel ih =>
    intro listed v w hs hf hR hV
    refine ⟨fun hr => hfin v w hR (fun i hi => hV i (all_listed hl hs hr i hi)), fun i hi => ?_⟩
    obtain ⟨h0, o, ho, hall⟩ := mem_ready.1 hi
    have hil := (Array.getElem?_eq_some_iff.1 ho).1
    refine wpOp_step ho fun K hK => hstep i o ho v w hR (fun e he hb => hV e.on (hall e he hb)) K ?_
    intro x w' hR' hrel hV'
    refine hK _ _ ?_
    have hd : ds[i]? = some o.dst := by
      rw [← hds, List.getElem?_map]
      have : ops.toList[i]? = some o := by simpa using ho
      rw [this]
      rfl
    rw [put_fill ds hap v 0 a0 i o.dst x hd, Nat.zero_add]
    refine ih _ _ _ (by simpa using hs) (by have := leftR_set h0; omega) hR' fun j hj => ?_
    by_cases hji : j = i
    · subst hji
      simpa [setV] using hV'
    · have : listed.getD j false = true := by rw [getD_set_ne false (Ne.symm hji)] at hj; exact hj
      have hvj := hst j _ _ _ (hV j this) hrel
      simpa [setV, hji] using hvj

theorem wp_region_inv (ds : List (Option Tmp)) (V : Nat → Value → World → Prop) (R : World → Prop) (Rel : World → World → Prop) {id : Nat} {a0 : Act} {w : World} (hm : P.follows .mixedOrders = true)
    (hds : ops.toList.map (·.dst) = ds) (hap : apartR ds = true) (hl : lexR ops = true) (hR : R w.drew)
    (hst : ∀ i x w w', V i x w → Rel w w' → V i x w')
    (hstep : ∀ i o, ops[i]? = some o → ∀ (v : Nat → Value) (w : World), R w → (∀ e ∈ o.after, Region.binds .any e = true → V e.on (v e.on) w) →
      ∀ K : Act → World → Prop, Shut (∀ x w', R w' → Rel w w' → V i x w' → K ((fillR ds v 0 a0).put o.dst x) w') →
        if Region.wanted o (yielded ops (fillR ds v 0 a0).tmps) = true then Oper.wp P o (fillR ds v 0 a0) w K Q else K ((fillR ds v 0 a0).put o.dst undef) w)
    (hfin : ∀ (v : Nat → Value) (w : World), R w → (∀ i, i < ops.size → V i (v i) w) → Q .normal (fillR ds v 0 a0) w) : (Code.region id ops true).wp P Q a0 w := by
  refine wp_region_any hm ?_
  have hfill : fillR ds (fun i => match ds[i]? with | some (some t) => a0.tmps.getD t undef | _ => undef) 0 a0 = a0 := by
    refine fill_start a0 ds 0 _ (fun i t ht => ?_)
    simp only [Nat.zero_add, ht]
  have := wpAny_inv (P := P) (Q := Q) (md := .any) ds hds hap hl V R Rel a0 hst hstep hfin ops.size (Array.replicate ops.size false) (fun i => match ds[i]? with | some (some t) => a0.tmps.getD t undef | _ => undef) w.drew (by simp) ?_ hR ?_
  · rw [hfill] at this
    exact this
  · unfold leftR
    refine Nat.le_trans List.countP_le_length ?_
    simp
  · intro i hi
    exfalso
    rcases Nat.lt_or_ge i ops.size with h' | h'
    · simp [h'] at hi
    · simp [Nat.not_lt.2 h'] at hi

/-- One operation's step: from R and the words of those that it waits for. -/
def StepR (P : Program) (ops : Array Oper) (Q : Exit → Act → World → Prop) (ds : List (Option Tmp)) (V : Nat → Value → World → Prop) (R : World → Prop) (Rel : World → World → Prop) (a0 : Act) (i : Nat) : Prop :=
  ∀ o, ops[i]? = some o → ∀ (v : Nat → Value) (w : World), R w → (∀ e ∈ o.after, Region.binds .any e = true → V e.on (v e.on) w) →
    ∀ K : Act → World → Prop, Shut (∀ x w', R w' → Rel w w' → V i x w' → K ((fillR ds v 0 a0).put o.dst x) w') →
      if Region.wanted o (yielded ops (fillR ds v 0 a0).tmps) = true then Oper.wp P o (fillR ds v 0 a0) w K Q else K ((fillR ds v 0 a0).put o.dst undef) w
theorem StepR.of {ds : List (Option Tmp)} {V : Nat → Value → World → Prop} {R : World → Prop} {Rel : World → World → Prop} {a0 : Act} {i : Nat} {o : Oper} (ho : ops[i]? = some o) (deps : List Nat)
    (hd : (o.after.toList.filter (Region.binds .any)).map (·.on) = deps)
    (h : ∀ (v : Nat → Value) (w : World), R w → (∀ j ∈ deps, V j (v j) w) → ∀ K : Act → World → Prop, Shut (∀ x w', R w' → Rel w w' → V i x w' → K ((fillR ds v 0 a0).put o.dst x) w') →
      if Region.wanted o (yielded ops (fillR ds v 0 a0).tmps) = true then Oper.wp P o (fillR ds v 0 a0) w K Q else K ((fillR ds v 0 a0).put o.dst undef) w) : StepR P ops Q ds V R Rel a0 i := by
  intro o' ho' v w hR hdep K hK
  rw [ho] at ho'
  cases ho'
  refine h v w hR (fun j hj => ?_) K hK
  subst hd
  obtain ⟨e, he, rfl⟩ := List.mem_map.1 hj
  obtain ⟨h1, h2⟩ := List.mem_filter.1 he
  exact hdep e (by simpa using h1) h2
theorem wp_region_steps (ds : List (Option Tmp)) (V : Nat → Value → World → Prop) (R : World → Prop) (Rel : World → World → Prop) (n : Nat) {id : Nat} {a0 : Act} {w : World} (hm : P.follows .mixedOrders = true)
    (hn : ops.size = n) (hds : ops.toList.map (·.dst) = ds) (hap : apartR ds = true) (hl : lexR ops = true) (hR : R w.drew)
    (hst : ∀ i x w w', V i x w → Rel w w' → V i x w')
    (hstep : ∀ i, i < n → StepR P ops Q ds V R Rel a0 i)
    (hfin : ∀ (v : Nat → Value) (w : World), R w → (∀ i, i < n → V i (v i) w) → Q .normal (fillR ds v 0 a0) w) : (Code.region id ops true).wp P Q a0 w := by
  subst hn
  refine wp_region_inv ds V R Rel hm hds hap hl hR hst (fun i o ho => ?_) hfin
  exact hstep i (Array.getElem?_eq_some_iff.1 ho).1 o ho
end
/-! The same, where the word of an operation may look at the values of others that it waits for, and each operation leaves what it leaves. -/
theorem getD_set_mono {listed : Array Bool} {i j : Nat} (h : listed.getD j false = true) : (listed.setIfInBounds i true).getD j false = true := by
  by_cases hji : j = i
  · subst hji
    have hj : j < listed.size := by
      rcases Nat.lt_or_ge j listed.size with h' | h'
      · exact h'
      · simp [Array.getElem?_eq_none h'] at h
    simp [hj]
  · rw [getD_set_ne false (Ne.symm hji)]
    exact h
theorem getD_set_own {listed : Array Bool} {i : Nat} (h : listed.getD i true = false) : (listed.setIfInBounds i true).getD i false = true := by
  have hi : i < listed.size := by
    rcases Nat.lt_or_ge i listed.size with h' | h'
    · exact h'
    · simp [Array.getElem?_eq_none h'] at h
  simp [hi]
section
variable {P : Program} {ops : Array Oper} {Q : Exit → Act → World → Prop} {md : Region.Mode}
/-- One operation's step. -/
def StepL (P : Program) (md : Region.Mode) (ops : Array Oper) (Q : Exit → Act → World → Prop) (ds : List (Option Tmp)) (V : Nat → (Nat → Value) → World → Prop) (R : World → Prop) (Rel : Nat → World → World → Prop) (a0 : Act) (i : Nat) : Prop :=
  ∀ o, ops[i]? = some o → ∀ (v : Nat → Value) (w : World), R w → (∀ e ∈ o.after, Region.binds md e = true → V e.on v w) →
    ∀ K : Act → World → Prop, Shut (∀ x w', R w' → Rel i w w' → V i (setV v i x) w' → K ((fillR ds v 0 a0).put o.dst x) w') →
      if Region.wanted o (yielded ops (fillR ds v 0 a0).tmps) = true then Oper.wp P o (fillR ds v 0 a0) w K Q else K ((fillR ds v 0 a0).put o.dst undef) w
/-- Does operation i wait for each of these? -/
def waitsR (md : Region.Mode) (ops : Array Oper) (i : Nat) (look : List Nat) : Bool := match ops[i]? with | some o => look.all fun j => o.after.any fun e => Region.binds md e && e.on == j | none => true

theorem StepL.of {ds : List (Option Tmp)} {V : Nat → (Nat → Value) → World → Prop} {R : World → Prop} {Rel : Nat → World → World → Prop} {a0 : Act} {i : Nat} {o : Oper} (ho : ops[i]? = some o) (deps : List Nat)
    (hd : waitsR md ops i deps = true)
    (h : ∀ (v : Nat → Value) (w : World), R w → (∀ j ∈ deps, V j v w) → ∀ K : Act → World → Prop, Shut (∀ x w', R w' → Rel i w w' → V i (setV v i x) w' → K ((fillR ds v 0 a0).put o.dst x) w') →
      if Region.wanted o (yielded ops (fillR ds v 0 a0).tmps) = true then Oper.wp P o (fillR ds v 0 a0) w K Q else K ((fillR ds v 0 a0).put o.dst undef) w) : StepL P md ops Q ds V R Rel a0 i := by
  intro o' ho' v w hR hdep K hK
  rw [ho] at ho'
  cases ho'
  refine h v w hR (fun j hj => ?_) K hK
  unfold waitsR at hd
  rw [ho] at hd
  have := List.all_eq_true.1 hd j hj
  obtain ⟨q, hq, he⟩ := Array.any_eq_true.1 this
  simp only [Bool.and_eq_true, beq_iff_eq] at he
  have := hdep o.after[q] (Array.getElem_mem _) he.1
  rwa [he.2] at this

theorem wpAny_look (ds : List (Option Tmp)) (hds : ops.toList.map (·.dst) = ds) (hap : apartR ds = true) (hl : lexR ops = true)
    (V : Nat → (Nat → Value) → World → Prop) (look : Nat → List Nat) (R : World → Prop) (Rel : Nat → World → World → Prop) (a0 : Act)
    (hloc : ∀ i v j x w, V i v w → j ≠ i → j ∉ look i → V i (setV v j x) w)
    (hlook : ∀ i, i < ops.size → waitsR md ops i (look i) = true)
    (hst : ∀ i k v w w', k ≠ i → V i v w → Rel k w w' → V i v w')
    (hstep : ∀ i, i < ops.size → StepL P md ops Q ds V R Rel a0 i)
    (hfin : ∀ (v : Nat → Value) (w : World), R w → (∀ i, i < ops.size → V i v w) → Q .normal (fillR ds v 0 a0) w) :
    ∀ (fuel : Nat) (listed : Array Bool) (v : Nat → Value) (w : World), listed.size = ops.size → leftR listed ≤ fuel → R w → (∀ i, listed.getD i false = true → V i v w ∧ ∀ j ∈ look i, listed.getD j false = true) →
      wpAny P md ops Q fuel listed (fillR ds v 0 a0) w := by
  intro fuel
  induction fuel with
  | zero =>
    intro listed v w hs hf hR hV
    have hall : ∀ i, i < ops.size → listed.getD i false = true := by
      intro i hi
      cases hb : listed.getD i false with
      | true => rfl
      | false =>
        have h' : listed.getD i true = false := by simpa [hs, hi] using hb
        have := leftR_set h'
        omega
    refine ⟨?_, hfin v w hR (fun i hi => (hV i (hall i hi)).1)⟩
    cases hr : Region.ready md ops listed with
    | nil => rfl
    | cons i rs =>
      have hm : i ∈ Region.ready md ops listed := by rw [hr]; simp
      obtain ⟨h0, o, ho, _⟩ := mem_ready.1 hm
      have hi := (Array.getElem?_eq_some_iff.1 ho).1
      have := hall i hi
      simp [hs, hi] at this h0
      rw [this] at h0
      cases h0
  | succ fuel ih =>
    intro listed v w hs hf hR hV
    refine ⟨fun hr => hfin v w hR (fun i hi => (hV i (all_listed hl hs hr i hi)).1), fun i hi => ?_⟩
    obtain ⟨h0, o, ho, hall⟩ := mem_ready.1 hi
    have hil := (Array.getElem?_eq_some_iff.1 ho).1
    refine wpOp_step ho fun K hK => hstep i hil o ho v w hR (fun e he hb => (hV e.on (hall e he hb)).1) K ?_
    intro x w' hR' hrel hV'
    refine hK _ _ ?_
    have hd : ds[i]? = some o.dst := by
      rw [← hds, List.getElem?_map]
      have : ops.toList[i]? = some o := by simpa using ho
      rw [this]
      rfl
    rw [put_fill ds hap v 0 a0 i o.dst x hd, Nat.zero_add]
    refine ih _ _ _ (by simpa using hs) (by have := leftR_set h0; omega) hR' fun j hj => ?_
    by_cases hji : j = i
    · subst hji
      refine ⟨hV', fun k hk => ?_⟩
      have hw := hlook j hil
      unfold waitsR at hw
      rw [ho] at hw
      have := List.all_eq_true.1 hw k hk
      obtain ⟨q, hq, he⟩ := Array.any_eq_true.1 this
      simp only [Bool.and_eq_true, beq_iff_eq] at he
      have hl' := hall o.after[q] (Array.getElem_mem _) he.1
      rw [he.2] at hl'
      exact getD_set_mono hl'
    · have hlj : listed.getD j false = true := by rw [getD_set_ne false (Ne.symm hji)] at hj; exact hj
      obtain ⟨hvj, hlk⟩ := hV j hlj
      refine ⟨hloc j v i x w' (hst j i _ _ _ (Ne.symm hji) hvj hrel) (Ne.symm hji) (fun hi' => ?_), fun k hk => getD_set_mono (hlk k hk)⟩
      have h1 := hlk i hi'
      have hil' : i < listed.size := by omega
      simp [hil'] at h0 h1
      rw [h1] at h0
      cases h0

theorem wp_region_look (ds : List (Option Tmp)) (V : Nat → (Nat → Value) → World → Prop) (look : Nat → List Nat) (R : World → Prop) (Rel : Nat → World → World → Prop) (n : Nat) {id : Nat} {a0 : Act} {w : World} (hm : P.follows .mixedOrders = true)
    (hn : ops.size = n) (hds : ops.toList.map (·.dst) = ds) (hap : apartR ds = true) (hl : lexR ops = true) (hR : R w.drew)
    (hloc : ∀ i v j x w, V i v w → j ≠ i → j ∉ look i → V i (setV v j x) w)
    (hlook : ∀ i, i < n → waitsR .any ops i (look i) = true)
    (hst : ∀ i k v w w', k ≠ i → V i v w → Rel k w w' → V i v w')
    (hstep : ∀ i, i < n → StepL P .any ops Q ds V R Rel a0 i)
    (hfin : ∀ (v : Nat → Value) (w : World), R w → (∀ i, i < n → V i v w) → Q .normal (fillR ds v 0 a0) w) : (Code.region id ops true).wp P Q a0 w := by
  subst hn
  refine wp_region_any hm ?_
  have hfill : fillR ds (fun i => match ds[i]? with | some (some t) => a0.tmps.getD t undef | _ => undef) 0 a0 = a0 := by
    refine fill_start a0 ds 0 _ (fun i t ht => ?_)
    simp only [Nat.zero_add, ht]
  have := wpAny_look (P := P) (Q := Q) (md := .any) ds hds hap hl V look R Rel a0 hloc hlook hst hstep hfin ops.size (Array.replicate ops.size false) (fun i => match ds[i]? with | some (some t) => a0.tmps.getD t undef | _ => undef) w.drew (by simp) ?_ hR ?_
  · rw [hfill] at this
    exact this
  · unfold leftR
    refine Nat.le_trans List.countP_le_length ?_
    simp
  · intro i hi
    exfalso
    rcases Nat.lt_or_ge i ops.size with h' | h'
    · simp [h'] at hi
    · simp [Nat.not_lt.2 h'] at hi
end
end Go.Proofs.YtlfgbmfojghhcaaGreatDoor
end

/-
  The document's Head. Condition: the number isn't below 0.
-/

section
set_option maxRecDepth 100000
set_option linter.unusedSimpArgs false
set_option linter.unusedVariables false
namespace Go.Proofs.YtlfgbmfojghhcaaGreatDoor
open Go.RowKit
attribute [local go_sem ↓] exec_loadTbl

/-- What each operation of Head's region that draws its order is good for. -/
def HdV (N gn : Nat) (bs d : List B8) (i : Nat) (v : Nat → Value) (w : World) : Prop :=
  match i with
  | 0 => v 0 = .agg Tbl.toArray
  | 1 => v 1 = .slice (some ⟨gn, 0, none⟩) 8 8
  | 2 => ∃ g, v 2 = .slice (some ⟨g, 0, none⟩) 1 1 ∧ Blk w g 22 [.slice (some ⟨gn, 0, none⟩) 8 8]
  | 3 => w.ownsRow N 5 1 (v 3) (framesOf [bs]).length (Vb (framesOf [bs]))
  | 4 => v 4 = .agg (Vb d).toArray
  | 5 => ∃ g cs, v 5 = .pointer (some ⟨g, 0, none⟩) ∧ N ≤ g ∧ Blk w g 111 cs ∧ cs.length = 32
  | 6 => ∃ g, v 5 = .pointer (some ⟨g, 0, none⟩) ∧ N ≤ g ∧ Blk w g 111 (Vb d)
  | _ => True
def HdRel (d : List B8) (k : Nat) (w w' : World) : Prop :=
  if k = 6 then ∃ g cs, Blk w g 111 cs ∧ Blk w' g 111 (Vb d) ∧ Only [g] w w' else Below w.heap.size w w'
theorem HdV.five {N gn : Nat} {bs d : List B8} {v : Nat → Value} {w : World} (h : HdV N gn bs d 5 v w) : ∃ g cs, v 5 = .pointer (some ⟨g, 0, none⟩) ∧ N ≤ g ∧ Blk w g 111 cs ∧ cs.length = 32 := h
theorem HdV.six {N gn : Nat} {bs d : List B8} {v : Nat → Value} {w : World} (h : HdV N gn bs d 6 v w) : ∃ g, v 5 = .pointer (some ⟨g, 0, none⟩) ∧ N ≤ g ∧ Blk w g 111 (Vb d) := h
theorem HdV.two {N gn : Nat} {bs d : List B8} {v : Nat → Value} {w : World} (h : HdV N gn bs d 2 v w) : ∃ g, v 2 = .slice (some ⟨g, 0, none⟩) 1 1 ∧ Blk w g 22 [.slice (some ⟨gn, 0, none⟩) 8 8] := h
theorem HdV.loc {N gn : Nat} {bs d : List B8} : ∀ i v j x w, HdV N gn bs d i v w → j ≠ i → j ∉ (if i = 6 then [5] else ([] : List Nat)) → HdV N gn bs d i (setV v j x) w := by
  intro i v j x w h hj hl
  have e : ∀ k, k ≠ j → setV v j x k = v k := fun k hk => by unfold setV; rw [if_neg hk]
  match i, h, hj, hl with
  | 0, h, hj, _ => exact (e 0 hj.symm).trans h
  | 1, h, hj, _ => exact (e 1 hj.symm).trans h
  | 2, h, hj, _ => obtain ⟨g, h1, h2⟩ := h; exact ⟨g, (e 2 hj.symm).trans h1, h2⟩
  | 3, h, hj, _ => show w.ownsRow _ _ _ (setV v j x 3) _ _; rw [e 3 hj.symm]; exact h
  | 4, h, hj, _ => exact (e 4 hj.symm).trans h
  | 5, h, hj, _ => obtain ⟨g, cs, h1, h2⟩ := h; exact ⟨g, cs, (e 5 hj.symm).trans h1, h2⟩
  | 6, h, hj, hl => obtain ⟨g, h1, h2⟩ := h; exact ⟨g, (e 5 (fun h => hl (by subst h; simp))).trans h1, h2⟩
  | i + 7, _, _, _ => trivial
theorem HdV.st {N gn : Nat} {bs d : List B8} (hd : d.length = 32) : ∀ i k v w w', k ≠ i → HdV N gn bs d i v w → HdRel d k w w' → HdV N gn bs d i v w' := by
  intro i k v w w' hk h hr
  unfold HdRel at hr
  by_cases h6 : k = 6
  · rw [if_pos h6] at hr
    obtain ⟨g0, cs0, hb0, hb1, ho⟩ := hr
    match i, h, hk with
    | 0, h, _ => exact h
    | 1, h, _ => exact h
    | 2, h, _ => obtain ⟨g, h1, h2⟩ := h; exact ⟨g, h1, h2.only ho (by simp only [List.mem_singleton]; rintro rfl; exact absurd (h2.same hb0).1 (by decide))⟩
    | 3, h, _ => exact ownsRow_only h ho (fun q hq hm => own_blk_ne h hb0 (by decide) (by rw [List.mem_singleton] at hm; rw [← hm]; exact hq))
    | 4, h, _ => exact h
    | 5, h, _ =>
      obtain ⟨g, cs, h1, h2, h3, h4⟩ := h
      by_cases hg : g = g0
      · subst hg
        exact ⟨g, Vb d, h1, h2, hb1, by rw [Vb_length, hd]⟩
      · exact ⟨g, cs, h1, h2, h3.only ho (by simpa using hg), h4⟩
    | 6, _, hk => exact absurd h6 hk
    | i + 7, _, _ => trivial
  · rw [if_neg h6] at hr
    match i, h with
    | 0, h => exact h
    | 1, h => exact h
    | 2, h => obtain ⟨g, h1, h2⟩ := h; exact ⟨g, h1, h2.below hr h2.lt⟩
    | 3, h => exact own_below h hr
    | 4, h => exact h
    | 5, h => obtain ⟨g, cs, h1, h2, h3, h4⟩ := h; exact ⟨g, cs, h1, h2, h3.below hr h3.lt, h4⟩
    | 6, h => obtain ⟨g, h1, h2, h3⟩ := h; exact ⟨g, h1, h2, h3.below hr h3.lt⟩
    | i + 7, _ => trivial

/-- A store into a block that is known to be there: the block is named behind the step alone. -/
theorem wp_store_ex {P : Program} {op : Oper} {a : Act} {w : World} {K : Act → World → Prop} {Q : Exit → Act → World → Prop} (ty : TypeId) (x y : Operand) (ho : op.op = .store ty x y) {vs : List Value} {u : Value} {t N : Nat}
    (hx : a.eval x = u) (hu : ∃ g cs, u = .pointer (some ⟨g, 0, none⟩) ∧ N ≤ g ∧ Blk w g t cs ∧ cs.length = vs.length) (hy : a.eval y = .agg vs.toArray) (hi : (P.info? ty).map (·.size) = some vs.length) (h1 : ∀ v ∈ vs, v.oneCell' = true)
    (h : ∀ g cs, u = .pointer (some ⟨g, 0, none⟩) → N ≤ g → Blk w g t cs → Blk (w.setCells g 0 vs) g t vs → K (a.put op.dst undef) (w.setCells g 0 vs)) : op.wp P a w K Q := by
  obtain ⟨g, cs, rfl, hg, hk, hc⟩ := hu
  refine wp_store_mid ty x y ho g 0 vs.toArray hx hy (hk.there (by simp [hc])) (by simpa using hi) (all_oneCell_toArray h1) ?_
  exact h g cs rfl hg hk (there_set hk hc.symm)

set_option maxHeartbeats 2000000 in
theorem rhead_any (w : World) (num : Nat) (hnum : num ≤ 9223372036854775807) :
    Calls Tryz.prog 52 #[.agg Tbl.toArray, .int .i64 num] w fun e w' => ∃ g, e = .returned (.slice (some ⟨g, 0, none⟩) 64 64) ∧ w.heap.size ≤ g ∧ Blk w' g 5 (Vb (headB Ks num)) ∧ Below w.heap.size w w' := by
  obtain ⟨i0, hi, hz0, hz1, hz2⟩ := info_parts (show (Tryz.prog.info? 5).map (fun i => (i.zero, i.size, i.bytes)) = some (some (.int .u8 0), 1, 1) by kernel_rfl)
  have HI := Lib.hid (And.intro hi (And.intro hz0 (And.intro hz1 hz2)))
  have hs32 := slice32
  have hz32 := zero32
  have hb1 := new_below w (.cells Tbl.toArray 38)
  have ht1 := TblV.new w
  have H0 := Lib.hid (And.intro hb1 ht1)
  clear hi hz0 hz1 hz2 hb1 ht1
  go_enter Tryz.func52, Tryz.ntmps52
  have hszw : (w.alloc (.cells Tbl.toArray 38)).heap.size = w.heap.size + 1 := by simp
  go_wp2_with fail
  refine (rbig_any _ num 8 hnum (by omega)).mono ?_
  rintro e w1 ⟨rfl, hB, hW⟩
  rw [hszw] at hB hW
  have hs1 := hW.size
  have hw0 := H0.out.1.trans (hW.mono (by omega))
  rw [← hszw] at hW
  have H1 := Lib.hid (And.intro hB (And.intro (H0.out.2.below hW) hw0))
  clear hB hW hw0 H0
  go_wp2_with fail
  obtain ⟨d, hde⟩ : ∃ d, sha Ks (framesOf [big 8 num]) = d := ⟨_, rfl⟩
  have hd : d.length = 32 := by rw [← hde]; exact sha_length _ _
  have HD := Lib.hid (And.intro hde hd)
  clear hde hd
  refine wp_region_look [some 9, some 10, some 11, some 12, some 13, some 6, none] (HdV w1.heap.size (w.heap.size + 1) (big 8 num) d) (fun i => if i = 6 then [5] else []) (fun wx => Below w1.heap.size w1 wx) (HdRel d) 7 (by kernel_rfl) rfl rfl rfl (by kernel_rfl) (drew_below w1) HdV.loc ?_ (HdV.st HD.out.2) ?_ ?_
  · intro i hi
    match i, hi with
    | 0, _ => exact (by decide +kernel)
    | 1, _ => exact (by decide +kernel)
    | 2, _ => exact (by decide +kernel)
    | 3, _ => exact (by decide +kernel)
    | 4, _ => exact (by decide +kernel)
    | 5, _ => exact (by decide +kernel)
    | 6, _ => exact (by decide +kernel)
    | i + 7, h => omega
  · intro i hi
    match i, hi with
    | 0, _ =>
      refine StepL.of rfl [] (by decide +kernel) ?_
      intro v wx hR hd K hK
      have ht := H1.out.2.1.below hR
      simp only [List.getElem_toArray, List.getElem_cons_zero, List.getElem_cons_succ, fillR, Act.put, List.setIfInBounds_toArray, List.set_cons_zero, List.set_cons_succ] at hK ⊢
      go_simp
      exact hK.out _ _ hR (Below.refl _ _) rfl
    | 1, _ =>
      refine StepL.of rfl [] (by decide +kernel) ?_
      intro v wx hR hd K hK
      simp only [List.getElem_toArray, List.getElem_cons_zero, List.getElem_cons_succ, fillR, Act.put, List.setIfInBounds_toArray, List.set_cons_zero, List.set_cons_succ] at hK ⊢
      go_simp
      exact hK.out _ _ hR (Below.refl _ _) rfl
    | 2, _ =>
      refine StepL.of rfl [1] (by decide +kernel) ?_
      intro v wx hR hd K hK
      have h1 : v 1 = _ := hd 1 (by simp)
      have hb := new_below wx (.cells #[.slice (some ⟨w.heap.size + 1, 0, none⟩) 8 8] 22)
      have hk := Blk.new wx 22 [.slice (some ⟨w.heap.size + 1, 0, none⟩) 8 8]
      have HX := Lib.hid (And.intro (below_of hR hb) (And.intro hb hk))
      clear hb hk hd
      simp only [List.getElem_toArray, List.getElem_cons_zero, List.getElem_cons_succ, fillR, Act.put, List.setIfInBounds_toArray, List.set_cons_zero, List.set_cons_succ, h1] at hK ⊢
      go_simp
      exact hK.out _ _ HX.out.1 HX.out.2.1 ⟨_, rfl, HX.out.2.2⟩
    | 3, _ =>
      refine StepL.of rfl [2] (by decide +kernel) ?_
      intro v wx hR hd K hK
      obtain ⟨g, h2, hk⟩ := (hd 2 (by simp)).two
      have hs := hR.size
      have hp : Parts (fun _ => True) wx (.slice (some ⟨g, 0, none⟩) 1 1) [big 8 num] :=
        ⟨g, 1, _, rfl, trivial, hk, Nat.le_refl _, Nat.le_refl _, by unfold maxLen; decide, fun i x hx => by
          match i, hx with
          | 0, hx =>
            simp only [List.getElem?_cons_zero, Option.some.injEq] at hx
            subst hx
            exact ⟨_, rfl, Bts.whole (H1.out.1.below hR H1.out.1.lt) (.inl rfl) trivial (big_length _ _) (by omega)⟩⟩
      have HX := Lib.hid (And.intro hR hp.txts.1)
      clear hd hk hp
      simp only [List.getElem_toArray, List.getElem_cons_zero, List.getElem_cons_succ, fillR, Act.put, List.setIfInBounds_toArray, List.set_cons_zero, List.set_cons_succ, h2] at hK ⊢
      go_simp
      refine (frame_ref _ _ _ 1 [big 8 num] HX.out.2 (by omega) (by intro x hx; simp only [List.mem_singleton] at hx; subst hx; rw [big_length]; omega)).mono ?_
      rintro e w' ⟨x, rfl, ho, hW⟩
      have hq := hK.out x w' (below_of HX.out.1 hW) hW (show w'.ownsRow w1.heap.size 5 1 x _ _ from (by
        refine ⟨ho.1, ?_⟩
        rcases ho.2 with h | ⟨g', cap, cur, e', hN, rest⟩
        · exact .inl h
        · exact .inr ⟨g', cap, cur, e', Nat.le_trans hs hN, rest⟩))
      clear hK ho hW
      go_wp2_with fail
      exact hq
    | 4, _ =>
      refine StepL.of rfl [0, 3] (by decide +kernel) ?_
      intro v wx hR hd K hK
      have h0 : v 0 = _ := hd 0 (by simp)
      have h3 : wx.ownsRow _ _ _ (v 3) _ _ := hd 3 (by simp)
      have hb3 := Bts.of_own h3
      have hfl : (framesOf [big 8 num]).length = 12 := by simp [framesOf, fr_big, big_length]
      obtain ⟨P3, c3, e3, _, _⟩ := hb3.form
      rw [e3] at hb3
      have HX := Lib.hid (And.intro hR (And.intro hb3.txtNew hfl))
      clear hd h3 hb3 hfl
      simp only [List.getElem_toArray, List.getElem_cons_zero, List.getElem_cons_succ, fillR, Act.put, List.setIfInBounds_toArray, List.set_cons_zero, List.set_cons_succ, h0, e3] at hK ⊢
      go_simp
      refine (sum_tbl _ _ _ _ _ HX.out.2.1 (by rw [HX.out.2.2]; omega)).mono ?_
      rw [HD.out.1]
      rintro e w' ⟨rfl, hW⟩
      have hq := hK.out (.agg (Vb d).toArray) w' (below_of HX.out.1 hW) hW rfl
      clear hK hW
      go_wp2_with fail
      exact hq
    | 5, _ =>
      refine StepL.of rfl [] (by decide +kernel) ?_
      intro v wx hR hd K hK
      have hb := new_below wx (.cells (List.replicate 32 (Value.int .u8 0)).toArray 111)
      have hk := Blk.new wx 111 (List.replicate 32 (Value.int .u8 0))
      have HX := Lib.hid (And.intro (below_of hR hb) (And.intro hb hk))
      have hs := hR.size
      clear hb hk hd
      simp only [List.getElem_toArray, List.getElem_cons_zero, List.getElem_cons_succ, fillR, Act.put, List.setIfInBounds_toArray, List.set_cons_zero, List.set_cons_succ] at hK ⊢
      go_simp
      exact hK.out _ _ HX.out.1 HX.out.2.1 ⟨_, _, rfl, hs, HX.out.2.2, by simp⟩
    | 6, _ =>
      refine StepL.of rfl [5, 4] (by decide +kernel) ?_
      intro v wx hR hd K hK
      have h5 := (hd 5 (by simp)).five
      have h4 : v 4 = _ := hd 4 (by simp)
      have hv32 : (Vb d).length = 32 := by rw [Vb_length, HD.out.2]
      have hs := hR.size
      clear hd
      simp only [List.getElem_toArray, List.getElem_cons_zero, List.getElem_cons_succ, fillR, Act.put, List.setIfInBounds_toArray, List.set_cons_zero, List.set_cons_succ, h4] at hK ⊢
      rw [if_pos (by rfl)]
      refine wp_store_ex 111 (.tmp 6) (.tmp 13) rfl (vs := Vb d) (u := v 5) (t := 111) (N := w1.heap.size) rfl (by rw [hv32]; exact h5) rfl (info31.trans (by rw [hv32])) (Vb_oneCell d) ?_
      intro g cs h5 hg hk hnew
      refine hK.out undef _ (hR.trans (set_below hg hs)) ?_ ⟨g, h5, hg, hnew⟩
      unfold HdRel
      rw [if_pos rfl]
      exact ⟨g, cs, hk, hnew, Only.setCells _ _ _ (Only.refl _ _) (.inl (by simp))⟩
    | i + 7, h => omega
  · intro v wx hR hV
    obtain ⟨g, h5, hg, hk⟩ := (hV 6 (by omega)).six
    simp only [fillR, Act.put, List.setIfInBounds_toArray, List.set_cons_zero, List.set_cons_succ, h5]
    have H2 := Lib.hid (And.intro hk (And.intro (H1.out.1.below hR H1.out.1.lt) (below_of H1.out.2.2 hR)))
    have hs2 := hR.size
    clear hV hR hk
    go_wp2_with (at_builtin; refine wpList_append_own _ rfl (.tmp 14) (.tmp 15) 22 rfl (w.heap.size + 1) 5 i0 (.int .u8 0) 1 1 Tryz.underlying22 HI.out.1 HI.out.2.1 HI.out.2.2.1 HI.out.2.2.2 rfl (by decide) _ 8 _ rfl (own_bts (N := w.heap.size + 1) H2.out.2.1 (Nat.le_refl _) (big_length _ _) (by omega)) ⟨g, 0, none⟩ 32 32 (Vb d) rfl (by rw [Vb_length]; exact HD.out.2) (Bts.whole (A := fun _ => True) H2.out.1 (.inr rfl) trivial HD.out.2 (by omega)).row (Vb_oneCell _) (by unfold maxLen; omega) (by omega) (by omega) ?_; intro v3 w3 ho hg2 _; obtain ⟨g3, c3, rfl, hc3, hd3, he3⟩ := own_some ho (by omega); have hb := (H2.out.2.2).grown hg2 (by omega) (fun q hq => Nat.le_trans (Nat.le_succ _) (own_ge (own_bts (N := w.heap.size + 1) H2.out.2.1 (Nat.le_refl _) (big_length _ _) (by omega)) q hq)); have H3 := Lib.hid (And.intro ho hb); have hs3 := hb.size; clear ho hg2 hb)
    have ho : w3.ownsRow (w.heap.size + 1) 5 1 (.slice (some ⟨g3, 0, none⟩) 40 c3) 40 (Vb (big 8 num ++ d)) := by
      have h := H3.out.1
      simp only [← Vb_append] at h
      exact h
    have hl : (big 8 num ++ d).length = 40 := by simp [big_length, HD.out.2]
    refine (rfull_pad _ _ _ _ _ _ (bts_len hl ho) (by omega)).mono ?_
    rintro e w4 ⟨rfl, hB, hW⟩
    have H4 := Lib.hid (And.intro hB (below_of H3.out.2 hW))
    clear hB hW ho hl
    go_wp2_with fail
    go_ret
    refine ⟨w3.heap.size, rfl, hs3, ?_, H4.out.2⟩
    have h := H4.out.1
    unfold headB
    rw [HD.out.1]
    exact h
end Go.Proofs.YtlfgbmfojghhcaaGreatDoor
end

/-
  The document's Number: that of a head. Condition: the bytes are a sector's.
-/

section
set_option maxRecDepth 100000
set_option linter.unusedSimpArgs false
set_option linter.unusedVariables false
namespace Go.Proofs.YtlfgbmfojghhcaaGreatDoor
open Go.RowKit
attribute [local go_sem ↓] exec_loadTbl

theorem fromB_cons (x : B8) (xs : List B8) : fromB (x :: xs) = x.toNat * 256 ^ xs.length + fromB xs := by
  have h : ∀ (l : List B8), fromB (x :: l.reverse) = x.toNat * 256 ^ l.length + fromB l.reverse := by
    intro l
    induction l with
    | nil => simp [fromB]
    | cons y l ih =>
      rw [List.reverse_cons, ← List.cons_append, fromB_snoc, fromB_snoc, ih, List.length_cons, Nat.pow_succ, Nat.add_mul, Nat.mul_assoc, Nat.add_assoc]
  have := h xs.reverse
  rwa [List.reverse_reverse, List.length_reverse] at this
theorem first_small {x : B8} {xs : List B8} {k : Nat} (h : x.toNat ≤ 16) (hk : k ≤ xs.length) : fromB ((x :: xs).take (k + 1)) < 17 * 256 ^ k := by
  rw [List.take_succ_cons, fromB_cons]
  have h1 := fromB_lt (xs.take k)
  have h2 : (xs.take k).length = k := by rw [List.length_take]; omega
  rw [h2] at h1 ⊢
  have : x.toNat * 256 ^ k ≤ 16 * 256 ^ k := Nat.mul_le_mul_right _ h
  omega
theorem first_big {x : B8} {xs : List B8} (h : 16 < x.toNat) (hl : xs.length = 63) : top60 < fromB (sub (x :: xs) 0 8) := by
  unfold sub
  rw [List.drop_zero, List.take_succ_cons, fromB_cons]
  have h2 : (xs.take 7).length = 7 := by rw [List.length_take]; omega
  rw [h2]
  have : 17 * 256 ^ 7 ≤ x.toNat * 256 ^ 7 := Nat.mul_le_mul_right _ h
  unfold top60
  omega
/-- What Number answers. -/
def numOf : Option Nat → Int
  | some k => k
  | none => -1
def rnumPost (r : Option Nat) (w : World) (e : Ending) (w' : World) : Prop := e = .returned (.int .i64 (numOf r)) ∧ Below w.heap.size w w'
theorem doneB_zero (ks : List B32) {b : List B8} (h : b = zeros64) : doneB ks b = some 0 := by unfold doneB; rw [if_pos h]
theorem doneB_big (ks : List B32) {b : List B8} (h : b ≠ zeros64) (hn : top60 < fromB (sub b 0 8)) : doneB ks b = none := by
  unfold doneB
  rw [if_neg h, if_neg (fun h => by have := h.1; omega)]
theorem doneB_right (ks : List B32) {b : List B8} (h : b ≠ zeros64) (hn : fromB (sub b 0 8) ≤ top60) (hb : b = headB ks (fromB (sub b 0 8))) : doneB ks b = some (fromB (sub b 0 8)) := by
  unfold doneB
  rw [if_neg h, if_pos ⟨hn, hb⟩]
theorem doneB_wrong (ks : List B32) {b : List B8} (h : b ≠ zeros64) (hb : b ≠ headB ks (fromB (sub b 0 8))) : doneB ks b = none := by
  unfold doneB
  rw [if_neg h, if_neg (fun h => hb h.2)]

set_option maxHeartbeats 2000000 in
theorem rnumber_any (w : World) (A : Nat → Prop) (g o c : Nat) (xs : List B8) (hx : Bts A w (.slice (some ⟨g, o, none⟩) 64 c) xs) (hc : 64 ≤ c) (hcm : c ≤ 9223372036854775807) :
    Calls Tryz.prog 29 #[.agg Tbl.toArray, .slice (some ⟨g, o, none⟩) 64 c] w (rnumPost (doneB Ks xs) w) := by
  have hmk := make64
  have hxl := hx.cells.1
  obtain ⟨x0, xr, rfl⟩ : ∃ x r, xs = x :: r := by
    match xs, hxl with
    | x :: r, _ => exact ⟨x, r, rfl⟩
    | [], h => simp at h
  have hrl : xr.length = 63 := by simpa using hxl
  have hb1 := new_below w (.cells Tbl.toArray 38)
  have hb2 := new_below (w.alloc (.cells Tbl.toArray 38)) (.cells (Vb zeros64).toArray 5)
  have hk2 := Blk.new (w.alloc (.cells Tbl.toArray 38)) 5 (Vb zeros64)
  rw [World.size_alloc] at hk2
  have H0 := Lib.hid (And.intro ((TblV.new w).below hb2) (And.intro (hx.below (below_of hb1 hb2)) (And.intro hk2 (And.intro (below_of hb1 hb2) (And.intro hrl hxl)))))
  clear hb1 hb2 hk2 hx hxl hrl
  obtain ⟨bz, hbz⟩ : ∃ b, decide (x0 :: xr = zeros64) = b := ⟨_, rfl⟩
  go_enter Tryz.func29, Tryz.ntmps29
  go_wp2_with fail
  refine (same_bts (b := bz) H0.out.2.1 (Bts.whole (A := fun _ => True) H0.out.2.2.1 (.inl rfl) trivial (by simp [zeros64]) (by omega)) hbz).mono ?_
  rintro e w1 ⟨rfl, hW⟩
  have H1 := Lib.hid (And.intro (H0.out.1.below hW) (And.intro (H0.out.2.1.below hW) (below_of H0.out.2.2.2.1 hW)))
  clear hW
  cases bz with
  | true =>
    have HZ := Lib.hid (doneB_zero Ks (of_decide_eq_true hbz))
    clear hbz
    go_wp2_with fail
    go_ret
    exact ⟨by rw [HZ.out]; rfl, H1.out.2.2⟩
  | false =>
    have HZ := Lib.hid (of_decide_eq_false hbz)
    clear hbz
    go_wp2_with fail
    go_loop [6, 5] (fun iv nv => ∃ k : Nat, k ≤ 8 ∧ iv = .int .i64 k ∧ nv = .int .i64 (fromB ((x0 :: xr).take k)) ∧ (0 < k → x0.toNat ≤ 16)) (fun iv _ => 8 - (intOf iv).toNat)
    case atStart => exact ⟨0, by omega, rfl, by simp [fromB], fun h => absurd h (by omega)⟩
    case round =>
      obtain ⟨k, hk, rfl, rfl, h16⟩ := hrel
      by_cases hlt : k < 8
      · have hxk : k < (x0 :: xr).length := by have := H0.out.2.2.2.2.2; omega
        obtain ⟨xk, hxk⟩ : ∃ x, (x0 :: xr)[k]? = some x := ⟨_, List.getElem?_eq_getElem hxk⟩
        obtain ⟨g', o', e, _, _, hcell⟩ := H1.out.2.1.cells.2 (by omega)
        cases e
        have hck := hcell k (.int .u8 (nb xk)) (by rw [Vb_get, hxk]; rfl)
        clear hcell
        by_cases h0 : k = 0
        · subst h0
          obtain rfl : x0 = xk := by simpa using hxk
          rw [Nat.add_zero] at hck
          have hbn := nb_bound x0
          by_cases hbig : 16 < x0.toNat
          · have e1 : decide (16 < nb x0) = true := by unfold nb; simp; omega
            have HR := Lib.hid (doneB_big Ks HZ.out (first_big hbig H0.out.2.2.2.2.1))
            clear hbig h16 hxk
            go_wp2_with fail
            go_ret
            exact ⟨by rw [HR.out]; rfl, H1.out.2.2⟩
          · have e1 : decide (16 < nb x0) = false := by unfold nb; simp; omega
            have HB := Lib.hid hbig
            clear hbig h16 hxk
            go_wp2_with fail
            go_round
            case rel => exact ⟨1, by omega, rfl, by have := x0.isLt; simp [fromB, nb]; unfold wrap64; omega, fun _ => by have := HB.out; omega⟩
            case measure => simp [intOf]
        · have e0 : ((k : Int) == 0) = false := beq_eq_false_iff_ne.2 (by omega)
          have hs := first_small (x := x0) (xs := xr) (k := k - 1) (h16 (by omega)) (by have := H0.out.2.2.2.2.1; omega)
          rw [show k - 1 + 1 = k by omega] at hs
          have hp : 256 ^ (k - 1) ≤ 256 ^ 6 := Nat.pow_le_pow_right (by omega) (by omega)
          have hstep : fromB ((x0 :: xr).take (k + 1)) = fromB ((x0 :: xr).take k) * 256 + xk.toNat := by rw [take_snoc_ hxk, fromB_snoc]
          have HS := Lib.hid hstep
          have H16 := Lib.hid (h16 (by omega))
          have hbn := nb_bound xk
          obtain ⟨m, hm⟩ : ∃ m, fromB ((x0 :: xr).take k) = m := ⟨_, rfl⟩
          rw [hm] at hs ⊢
          have hmb : m ≤ 17 * 256 ^ 6 := by omega
          have HM := Lib.hid hm
          clear hs hp hstep h16 hm hxk
          go_wp2_with fail
          go_round
          case rel => exact ⟨k + 1, by omega, by go_num, by rw [HS.out, HM.out]; congr 1; unfold nb; omega, fun _ => H16.out⟩
          case measure => simp [intOf]; omega
      · obtain rfl : k = 8 := by omega
        have hs := first_small (x := x0) (xs := xr) (k := 7) (h16 (by omega)) (by have := H0.out.2.2.2.2.1; omega)
        have he : (x0 :: xr).take 8 = sub (x0 :: xr) 0 8 := by unfold sub; rw [List.drop_zero]
        rw [show 7 + 1 = 8 from rfl, he] at hs
        rw [he]
        obtain ⟨m, hm⟩ : ∃ m, fromB (sub (x0 :: xr) 0 8) = m := ⟨_, rfl⟩
        rw [hm] at hs ⊢
        have hmb : m ≤ 9223372036854775807 := by omega
        have HM := Lib.hid hm
        clear hs h16 he hm
        by_cases htop : 1152921504606846976 < m
        · have e0 : decide ((1152921504606846976 : Int) < (m : Int)) = true := by simp; omega
          have HR := Lib.hid (doneB_big Ks HZ.out (by rw [HM.out]; exact htop))
          clear htop
          go_wp2_with fail
          go_ret
          exact ⟨by rw [HR.out]; rfl, H1.out.2.2⟩
        · have e0 : decide ((1152921504606846976 : Int) < (m : Int)) = false := by simp; omega
          have HT := Lib.hid (show m ≤ top60 by unfold top60; omega)
          have ht1 := H1.out.1
          clear htop
          go_wp2_with fail
          refine (rhead_any _ m hmb).mono ?_
          rintro e w2 ⟨g2, rfl, _, hB, hW⟩
          have H2 := Lib.hid (And.intro hB (And.intro (H1.out.2.1.below hW) (below_of H1.out.2.2 hW)))
          clear hB hW ht1
          obtain ⟨be, hbe⟩ : ∃ b, decide (x0 :: xr = headB Ks m) = b := ⟨_, rfl⟩
          go_wp2_with fail
          refine (same_bts (b := be) H2.out.2.1 (Bts.whole (A := fun _ => True) H2.out.1 (.inl rfl) trivial (headB_length _ _) (by omega)) hbe).mono ?_
          rintro e w3 ⟨rfl, hW⟩
          have H3 := Lib.hid (below_of H2.out.2.2 hW)
          clear hW
          cases be with
          | true =>
            have HR := Lib.hid (doneB_right Ks HZ.out (by rw [HM.out]; exact HT.out) (by rw [HM.out]; exact of_decide_eq_true hbe))
            clear hbe
            go_wp2_with fail
            go_ret
            exact ⟨by rw [HR.out, HM.out]; rfl, H3.out⟩
          | false =>
            have HR := Lib.hid (doneB_wrong Ks HZ.out (by rw [HM.out]; exact of_decide_eq_false hbe))
            clear hbe
            go_wp2_with fail
            go_ret
            exact ⟨by rw [HR.out]; rfl, H3.out⟩
end Go.Proofs.YtlfgbmfojghhcaaGreatDoor
end

/-
  The document's Sum: a transaction's digest. Conditions: the writes are known, of sectors that aren't below 0, bytes of a sector.
-/

section
set_option maxRecDepth 100000
set_option linter.unusedSimpArgs false
set_option linter.unusedVariables false
namespace Go.Proofs.YtlfgbmfojghhcaaGreatDoor
open Go.RowKit
attribute [local go_sem ↓] exec_loadTbl

set_option maxHeartbeats 2000000 in
theorem rsum_any (w : World) (A : Nat → Prop) (num m : Nat) (P : Option Addr) (c : Nat) (ws : List (Int × List B8)) (hw : Rfs A w (.slice P m c) ws) (hnum : num ≤ 9223372036854775807) (hm : m ≤ 15)
    (hok : ∀ p ∈ ws, 0 ≤ p.1 ∧ p.1 ≤ 4294967296 ∧ p.2.length = 64) :
    Calls Tryz.prog 55 #[.agg Tbl.toArray, .int .i64 num, .slice P m c] w fun e w' => e = .returned (.agg (Vb (digOf Ks num ws)).toArray) ∧ Below w.heap.size w w' := by
  have hz := zero32
  have hlen := hw.len
  obtain ⟨i1, hj, hy0, hy1, hy2⟩ := info_parts (show (Tryz.prog.info? 22).map (fun i => (i.zero, i.size, i.bytes)) = some (some (.slice none 0 0), 1, 24) by kernel_rfl)
  have HJ := Lib.hid (And.intro hj (And.intro hy0 (And.intro hy1 hy2)))
  have hb1 := new_below w (.cells Tbl.toArray 38)
  have hb2 := new_below (w.alloc (.cells Tbl.toArray 38)) (.cells (List.replicate 32 (Value.int .u8 0)).toArray 111)
  have hk2 := Blk.new (w.alloc (.cells Tbl.toArray 38)) 111 (List.replicate 32 (Value.int .u8 0))
  rw [World.size_alloc] at hk2
  have ht2 := (TblV.new w).below hb2
  have H0 := Lib.hid (And.intro ht2 (And.intro hk2 (And.intro (below_of hb1 hb2) (And.intro hw (And.intro hok hlen)))))
  clear hb1 hb2 hk2 hw hok hlen ht2 hj hy0 hy1 hy2
  go_enter Tryz.func55, Tryz.ntmps55
  go_wp2_with fail
  refine (rbig_any _ num 8 hnum (by omega)).mono ?_
  rintro e w1 ⟨rfl, hB, hW⟩
  have hs1 := (below_of H0.out.2.2.1 hW).size
  have H1 := Lib.hid (And.intro hB (And.intro (H0.out.1.below hW) (And.intro (H0.out.2.1.below hW H0.out.2.1.lt) (below_of H0.out.2.2.1 hW))))
  clear hB hW
  go_wp2_with fail
  refine (rbig_any _ m 4 (by omega) (by omega)).mono ?_
  rintro e w2 ⟨rfl, hB, hW⟩
  have H2 := Lib.hid (And.intro hB (And.intro (H1.out.1.below hW H1.out.1.lt) (And.intro (H1.out.2.1.below hW) (And.intro (H1.out.2.2.1.below hW H1.out.2.2.1.lt) (below_of H1.out.2.2.2 hW)))))
  clear hB hW
  have hs2 := H2.out.2.2.2.2.size
  have hl1 := H2.out.2.1.lt
  have hl2 := H2.out.1.lt
  simp only [World.size_alloc] at *
  have hq := Blk.new w2 22 [.slice (some ⟨w.heap.size + 1 + 1, 0, none⟩) 8 8, .slice (some ⟨w1.heap.size, 0, none⟩) 4 4]
  have hb := new_below w2 (.cells #[.slice (some ⟨w.heap.size + 1 + 1, 0, none⟩) 8 8, .slice (some ⟨w1.heap.size, 0, none⟩) 4 4] 22)
  have hop : OParts w.heap.size (w2.alloc (.cells #[.slice (some ⟨w.heap.size + 1 + 1, 0, none⟩) 8 8, .slice (some ⟨w1.heap.size, 0, none⟩) 4 4] 22)) (.slice (some ⟨w2.heap.size, 0, none⟩) 2 2) 2 [big 8 num, big 4 m] := by
    refine OParts.two (by omega) hq ((Bts.whole H2.out.2.1 (.inl rfl) trivial (big_length _ _) (by omega)).below hb) ((Bts.whole H2.out.1 (.inl rfl) trivial (big_length _ _) (by omega)).below hb)
  have H3 := Lib.hid (And.intro (below_of H2.out.2.2.2.2 hb) (And.intro (H2.out.2.2.2.1.below hb H2.out.2.2.2.1.lt) (And.intro (H2.out.2.2.1.below hb) hop)))
  clear hq hb hop
  go_wp2_with fail
  generalize w2.alloc (.cells #[.slice (some ⟨w.heap.size + 1 + 1, 0, none⟩) 8 8, .slice (some ⟨w1.heap.size, 0, none⟩) 4 4] 22) = w3 at *
  go_loopw [8, 7] (fun iv tv wx => ∃ i : Nat, i ≤ m ∧ iv = .int .i64 i ∧ OParts w.heap.size wx tv (2 + 2 * i) (big 8 num :: big 4 m :: (ws.take i).flatMap fun p => [big 4 p.1.toNat, p.2]) ∧ Blk wx (w.heap.size + 1) 111 (List.replicate 32 (.int .u8 0)) ∧ TblV wx (.pointer (some ⟨w.heap.size, 0, none⟩)) ∧ Below w.heap.size w wx) (fun iv _ _ => m - (intOf iv).toNat)
  case atStart => exact ⟨0, Nat.zero_le _, rfl, H3.out.2.2.2, H3.out.2.1, H3.out.2.2.1, H3.out.1⟩
  case round =>
    obtain ⟨i, hi, rfl, h1, h2, h4, h3⟩ := hrel
    by_cases hlt : i < m
    · obtain ⟨p, hp⟩ : ∃ p, ws[i]? = some p := ⟨_, List.getElem?_eq_getElem (by have := H0.out.2.2.2.2.2; omega)⟩
      obtain ⟨g, Q, m2, k2, rfl, hg, hAg, k0, k1, hl2, hbt, hmk, hk⟩ := (H0.out.2.2.2.1.below h3).at_ hp
      obtain ⟨q0, q1, q2⟩ := H0.out.2.2.2.2.1 p (List.mem_of_getElem? hp)
      obtain ⟨q, hq⟩ : ∃ q : Nat, p.1 = q := ⟨p.1.toNat, by omega⟩
      rw [hq] at k0
      have hqb : q ≤ 4294967296 := by omega
      obtain ⟨cells, ho, hcl, hxl, hcs⟩ := h1
      have hsz := h3.size
      have HR := Lib.hid (And.intro h2 (And.intro h3 (And.intro hp (And.intro hbt (And.intro ho (And.intro hcl (And.intro hxl (And.intro hcs h4))))))))
      have HQ := Lib.hid hq
      clear h2 h3 h4 hp hbt ho hcl hxl hcs q0 q1 q2 hq hl2
      go_wp2_with fail
      go_region_held3 (fun w' => w'.cell? ⟨g, i * 2, none⟩ = some (.int .i64 q) ∧ w'.cell? ⟨g, i * 2 + 1, none⟩ = some (.slice Q m2 k2)) (first | exact ⟨f0, f1⟩ | exact ⟨cell_below e0 (new_below _ _), cell_below e1 (new_below _ _)⟩ | exact ⟨e0, e1⟩ | exact ⟨k0, k1⟩)
        (first
          | (go_at_call 73; refine (rbig_any _ q 4 (by omega) (by omega)).mono ?_; rintro e w5 ⟨rfl, hB, hW⟩; have e0 := cell_drew k0 hW; have e1 := cell_drew k1 hW; have H5 := Lib.hid (And.intro (show Blk w5 wr.heap.size 5 (Vb (big 4 q)) from hB) (below_drew (Below.refl _ _) hW)); clear hB hW)
          | (refine step_append_lies _ rfl (.tmp 21) (.tmp 33) 130 rfl w.heap.size 22 i1 (.slice none 0 0) 1 24 Tryz.underlying130 HJ.out.1 HJ.out.2.1 HJ.out.2.2.1 HJ.out.2.2.2 rfl (by decide) u7 (2 + 2 * i) cells rfl ((own_below HR.out.2.2.2.2.1 H5.out.2).alloc _) ⟨w5.heap.size, 0, none⟩ 2 2 [.slice (some ⟨wr.heap.size, 0, none⟩) 4 4, .slice Q m2 k2] rfl rfl (new_row w5 [_, _] 22) (slices_one _ _ _ _ _ _) (by decide) (by unfold maxLen; omega) (by omega) (by have := H5.out.2.size; simp; omega) (w5.heap.size + 1) (by simp) ?_; intro g3 cap3 w6 ho6 hg6 hw6 hl6; have hown5 := (own_below HR.out.2.2.2.2.1 H5.out.2).alloc (.cells #[.slice (some ⟨wr.heap.size, 0, none⟩) 4 4, .slice Q m2 k2] 22); obtain ⟨gcs, hgc⟩ := (H0.out.2.2.2.1.below (HR.out.2.1.trans (H5.out.2.mono hsz))).blk; have hg5 := hgc.alloc (.cells #[.slice (some ⟨wr.heap.size, 0, none⟩) 4 4, .slice Q m2 k2] 22); have hg7 := hg5.grown hg6 (fun e => own_blk_ne hown5 hg5 (by decide) e.symm); have f0 := (hg7.cell _).trans ((hg5.cell _).symm.trans (cell_below e0 (new_below _ _))); have f1 := (hg7.cell _).trans ((hg5.cell _).symm.trans (cell_below e1 (new_below _ _))); have H6 := Lib.hid (And.intro ho6 (And.intro hg6 hown5)); clear ho6 hg6 hw6 hl6 hown5 hgc hg5 hg7))
      go_wp2_with fail
      have hb5 := new_below w5 (.cells #[.slice (some ⟨wr.heap.size, 0, none⟩) 4 4, .slice Q m2 k2] 22)
      have hbel5 := below_of H5.out.2 hb5
      have hbel6 : Below w.heap.size w w6 := (HR.out.2.1.trans (hbel5.mono hsz)).grown H6.out.2.1 (by have := hbel5.size; omega) (fun q hq => own_ge H6.out.2.2 q hq)
      have hres6 : Blk w6 (w.heap.size + 1) 111 (List.replicate 32 (.int .u8 0)) := (HR.out.1.below hbel5 HR.out.1.lt).grown H6.out.2.1 (fun e => own_blk_ne H6.out.2.2 (HR.out.1.below hbel5 HR.out.1.lt) (by decide) e.symm)
      have htb6 : TblV w6 (.pointer (some ⟨w.heap.size, 0, none⟩)) := by
        obtain ⟨b, e, hk⟩ := HR.out.2.2.2.2.2.2.2.2.below hbel5
        exact ⟨b, e, hk.grown H6.out.2.1 (fun e => own_blk_ne H6.out.2.2 hk (by decide) e.symm)⟩
      have hop6 : OParts w.heap.size w6 (.slice (some ⟨g3, 0, none⟩) (2 + 2 * i + 2) cap3) (2 + 2 * i + 2) ((big 8 num :: big 4 m :: (ws.take i).flatMap fun p => [big 4 p.1.toNat, p.2]) ++ [big 4 q, p.2]) := by
        refine OParts.snoc2 HR.out.2.2.2.2.2.2.1 HR.out.2.2.2.2.2.1 (fun j x hx => ?_) H6.out.1 ?_ ?_
        · obtain ⟨u, hu, hbu⟩ := HR.out.2.2.2.2.2.2.2.1 j x hx
          exact ⟨u, hu, (hbu.below hbel5).grown H6.out.2.2 H6.out.2.1 (by decide) (by decide)⟩
        · exact ((Bts.whole H5.out.1 (.inl rfl) trivial (big_length _ _) (by omega)).below hb5).grown H6.out.2.2 H6.out.2.1 (by decide) (by decide)
        · exact ((HR.out.2.2.2.1.mono (fun _ _ _ => trivial)).below hbel5).grown H6.out.2.2 H6.out.2.1 (by decide) (by decide)
      have HE := Lib.hid (And.intro hop6 (And.intro hres6 (And.intro htb6 hbel6)))
      clear hb5 hbel5 hbel6 hres6 hop6 htb6
      go_wp2_with fail
      go_roundw
      case rel =>
        refine ⟨i + 1, by omega, by go_num, ?_, HE.out.2.1, HE.out.2.2.1, HE.out.2.2.2⟩
        rw [take_snoc_ HR.out.2.2.1, txtsOf_snoc, show p.1.toNat = q by have := HQ.out; omega, show 2 + 2 * (i + 1) = 2 + 2 * i + 2 by omega]
        exact HE.out.1
      case measure => simp [intOf]; omega
    · obtain rfl : i = m := by omega
      rw [List.take_of_length_le (by have := H0.out.2.2.2.2.2; omega)] at h1
      have hpt := (h1.parts (by omega))
      obtain ⟨g1, cap1, vs1, e1, _, _, _, _, _, _⟩ := id hpt
      have hl1 : (txtsOf num ws).length = 2 + 2 * i := by obtain ⟨_, _, _, h, _⟩ := h1; unfold txtsOf; rw [H0.out.2.2.2.2.2]; exact h
      have hpt' : Parts (fun _ => True) wr u7 (txtsOf num ws) := by unfold txtsOf; rw [H0.out.2.2.2.2.2]; exact hpt
      have e1' : u7 = .slice (some ⟨g1, 0, none⟩) (2 + 2 * i) cap1 := by obtain ⟨_, _, _, h, _⟩ := h1; rw [← h]; exact e1
      rw [e1'] at hpt' ⊢
      have hall : ∀ x ∈ txtsOf num ws, x.length ≤ 300 := txts_small _ _ (fun p hp => by have := H0.out.2.2.2.2.1 p hp; omega)
      have hfl := frames_len num ws (fun p hp => (H0.out.2.2.2.2.1 p hp).2.2)
      rw [H0.out.2.2.2.2.2] at hfl
      have HX := Lib.hid (And.intro hpt' (And.intro h2 (And.intro h3 (And.intro h4 (And.intro hall hfl)))))
      have hd := sha_length Ks (framesOf (txtsOf num ws))
      have HT := Lib.hid (show digOf Ks num ws = sha Ks (framesOf (txtsOf num ws)) from rfl)
      have hs := h3.size
      have hth := (h2.below (drew_below _) h2.lt).there (o := 0) (n := 32) (by simp)
      have x0 := h4.drew
      clear h1 h2 h3 hpt e1 hpt' hl1 e1' hall hfl
      obtain ⟨d, hde⟩ : ∃ d, sha Ks (framesOf (txtsOf num ws)) = d := ⟨_, rfl⟩
      rw [hde] at hd HT
      have HDE := Lib.hid hde
      have hv32 : (Vb d).length = 32 := by rw [Vb_length, hd]
      have hi32 : (Tryz.prog.info? 111).map (·.size) = some (Vb d).length := info31.trans (by rw [hv32])
      have hc32 := Vb_oneCell d
      clear hde hd
      go_wp2_with fail
      go_region_held3 (fun w' => TblV w' (.pointer (some ⟨w.heap.size, 0, none⟩)) ∧ w'.there (w.heap.size + 1) 0 32)
        (first | exact ⟨x0, hth⟩ | exact ⟨x4, x5⟩ | exact ⟨y4, y5⟩ | exact ⟨z4, z5⟩)
        (first
          | (go_at_call 75; refine (frame_ref _ _ _ cap1 (txtsOf num ws) (HX.out.1.below (drew_below _)).txts.1 (by omega) HX.out.2.2.2.2.1).mono ?_; rintro e w7 ⟨v7, rfl, ho7, hW⟩; have hk7 := blk_drew HX.out.2.1 hW; have x4 := h4.of_drew hW; have x5 := hk7.there (o := 0) (n := 32) (by simp); have hb7 := Bts.of_own ho7; obtain ⟨P7, c7, rfl, _, _⟩ := hb7.form; have H7 := Lib.hid (And.intro hb7 (And.intro hk7 (below_drew (Below.refl _ _) hW))); clear hW ho7 hk7 hb7)
          | (go_at_call 74; refine (sum_tbl _ _ _ _ _ H7.out.1.txtNew (by have := HX.out.2.2.2.2.2; omega)).mono ?_; rw [HDE.out]; rintro e w8 ⟨rfl, hW⟩; have hk8 := H7.out.2.1.below hW H7.out.2.1.lt; have y4 := x4.below hW; have y5 := hk8.there (o := 0) (n := 32) (by simp); have z4 := y4.set (g := w.heap.size + 1) (vs := Vb d) (by omega); have z5 := (there_set (vs := Vb d) hk8 (by rw [hv32]; rfl)).there (o := 0) (n := 32) (by rw [hv32]; exact Nat.le_refl _); have H8 := Lib.hid (And.intro hk8 (below_of H7.out.2.2 hW)); clear hW hk8))
      have hfin := there_set (vs := Vb d) H8.out.1 (by simp [hv32])
      have hbf := H8.out.2.size
      have HF := Lib.hid (And.intro hfin ((HX.out.2.2.1.trans (H8.out.2.mono hs)).trans (set_below (B := w.heap.size) (w := w8) (g := w.heap.size + 1) (o := 0) (vs := Vb d) (by omega) (by omega))))
      clear hfin hbf
      go_wp2_with fail
      refine bodyPost_ret (v := .agg (Vb d).toArray) ?_ rfl ⟨by rw [HT.out], HF.out.2⟩
      exact ret_cell rfl rfl (run_loadVar_mid _ _ 0 111 _ _ HF.out.1.range Tryz.underlying111 rfl hi32)
end Go.Proofs.YtlfgbmfojghhcaaGreatDoor
end

/-
  begun, where the journal begins with the next number: the transaction, if it is whole; else that it isn't. Conditions: the disk has power that never goes; the journal has room for at most 15 writes.
-/

section
set_option maxRecDepth 100000
set_option linter.unusedSimpArgs false
set_option linter.unusedVariables false
namespace Go.Proofs.YtlfgbmfojghhcaaGreatDoor
open Go.RowKit

/-- How many writes the journal's first note tells. -/
def cntOf (S : Nat → List B8) : Nat := fromB (sub (S 1) 12 4)
/-- The journal has the transaction of a number whole. -/
def Full (ks : List B32) (S : Nat → List B8) (data j num : Nat) : Prop :=
  num ≤ top60 ∧ 1 ≤ cntOf S ∧ cntOf S ≤ j / 2 ∧ (∀ i, i < cntOf S → okAt S data num (cntOf S) i) ∧ isB ks num (wrsTo S (cntOf S)) (notesTo S (cntOf S))
def begunPost (ks : List B32) (S : Nat → List B8) (data j num : Nat) (w : World) (e : Ending) (w' : World) : Prop :=
  ((e = .returned (.tuple #[.agg #[.int .i64 0, .slice none 0 0], .int .i64 4]) ∧ ¬ Full ks S data j num) ∨
    (∃ vw, e = .returned (.tuple #[.agg #[.int .i64 num, vw], .int .i64 0]) ∧ Full ks S data j num ∧ OWrs w.heap.size (fun g => w.heap.size ≤ g) w' vw (cntOf S) (wrsTo S (cntOf S)))) ∧ Below w.heap.size w w'

theorem OWrs.lower {N N' n : Nat} {A A' : Nat → Prop} {w : World} {v : Value} {X : List (Int × List B8)} (h : OWrs N' A w v n X) (hN : N ≤ N') (hA : ∀ g, A g → A' g) : OWrs N A' w v n X := by
  obtain ⟨cells, c1, c2, c3⟩ := h
  refine ⟨cells, ⟨c1.1, ?_⟩, c2, fun jj p hp => ?_⟩
  · rcases c1.2 with h | ⟨g, cap, cur, e, hb, rest⟩
    · exact .inl h
    · exact .inr ⟨g, cap, cur, e, Nat.le_trans hN hb, rest⟩
  · obtain ⟨d0, u, d1, hu⟩ := c3 jj p hp
    exact ⟨d0, u, d1, hu.mono fun g hg _ => hA g hg⟩

set_option maxHeartbeats 4000000 in
theorem begun_any (ks : List B32) (B : Nat) (w : World) (D L n j : Nat) (S : Nat → List B8) (cw cf num : Nat) (hd : Idle B D L n S cw cf w) (hK : Roots ks w) (hj : j + 1 < n) (hj1 : 1 ≤ j) (hj30 : j ≤ 30) (hnum : num ≤ 9223372036854775807) (hno : fromB (sub (S 1) 0 8) = num) :
    Calls Tryz.prog 71 #[lay_ D j, .int .i64 num] w (begunPost ks S (n - j - 1) j num w) := by
  have hnb := hd.bound
  have hpos := hK.pos
  have hz := zeroTrans
  have b1 := new_below w (.cells #[.pointer (some ⟨D, 0, none⟩), .int .i64 (j : Int)] 75)
  have k1 := Blk.new w 75 [.pointer (some ⟨D, 0, none⟩), .int .i64 (j : Int)]
  have b2 := new_below (w.alloc (.cells #[.pointer (some ⟨D, 0, none⟩), .int .i64 (j : Int)] 75)) (.cells #[.int .i64 0, .slice none 0 0] 99)
  have k2 := Blk.new (w.alloc (.cells #[.pointer (some ⟨D, 0, none⟩), .int .i64 (j : Int)] 75)) 99 [.int .i64 0, .slice none 0 0]
  simp only [World.size_alloc] at k2
  have ⟨l0, l1⟩ := blk_pair (k1.below b2 k1.lt)
  have H := Lib.hid (And.intro (hd.below (below_of b1 b2)) (And.intro (k1.below b2 k1.lt) (And.intro k2 (below_of b1 b2))))
  have HK := Lib.hid hK
  obtain ⟨cnt, hcnt⟩ : ∃ c, fromB (sub (S 1) 12 4) = c := ⟨_, rfl⟩
  have hcb : cnt < 4294967296 := by
    have := fromB_lt (sub (S 1) 12 4)
    rw [sub_length (by rw [hd.sec (by omega)]; omega)] at this
    rw [← hcnt]
    exact this
  have HF := Lib.hid (And.intro hno (And.intro hcnt (show cntOf S = cnt from hcnt)))
  clear hd b1 k1 b2 k2 hno hcnt hK
  go_enter Tryz.func71, Tryz.ntmps71
  go_wp2_with fail
  go_region_held3 (fun w' => w'.cell? ⟨w.heap.size, 0, none⟩ = some (.pointer (some ⟨D, 0, none⟩)) ∧ w'.cell? ⟨w.heap.size, 1, none⟩ = some (.int .i64 (j : Int)))
    (first | exact ⟨c0, c1⟩ | exact ⟨e0, e1⟩ | exact ⟨l0, l1⟩)
    (first
      | (go_at_call 63; refine (noteAt_any (D := D) (j := j) 0 (by omega)).mono ?_; rintro e w2 ⟨rfl, hW⟩; have e0 := cell_drew l0 hW; have e1 := cell_drew l1 hW; have H2 := Lib.hid (And.intro (idle_drew H.out.1 hW) (And.intro (blk_drew H.out.2.1 hW) (And.intro (blk_drew H.out.2.2.1 hW) (below_drew H.out.2.2.2 hW)))); clear hW)
      | (go_at_call 42; refine (read_calm H2.out.1.calm (k := 1) (by omega)).mono ?_; rintro e w3 ⟨v, rfl, hv, hW⟩; have c0 := cell_below e0 hW; have c1 := cell_below e1 hW; have hs64 := H2.out.1.sec (k := 1) (by omega); obtain ⟨Q, k3, rfl, hk64, hk3⟩ := hv.form; rw [hs64] at hk64 hv ⊢; obtain ⟨g, o, rfl, _, _, _⟩ := hv.cells.2 (by omega); have H3 := Lib.hid (And.intro hv (And.intro (H2.out.1.below hW) (And.intro (H2.out.2.1.below hW H2.out.2.1.lt) (And.intro (H2.out.2.2.1.below hW H2.out.2.2.1.lt) (below_of H2.out.2.2.2 hW))))); clear hW hv))
  go_wp2_with fail
  refine (noted_any _ _ g o k3 (S 1) H3.out.1 hk64 hk3).mono ?_
  rintro e w4 ⟨rfl, hW⟩
  have hr := H3.out.2.2.2.1.below hW H3.out.2.2.2.1.lt
  have hl := H3.out.2.2.1.below hW H3.out.2.2.1.lt
  have ⟨r0, r1⟩ := blk_pair hr
  have ⟨l0, l1⟩ := blk_pair hl
  have rf0 := hr.frozen 0
  have rf1 := hr.frozen 1
  have H4 := Lib.hid (And.intro hr (And.intro hl (And.intro (H3.out.2.1.below hW) (below_of H3.out.2.2.2.2 hW))))
  clear hW hr hl e0 e1 c0 c1
  rw [HF.out.1, HF.out.2.1]
  by_cases ht : 1152921504606846976 < num
  · have e0 : decide ((1152921504606846976 : Int) < (num : Int)) = true := by simp; omega
    have HN := Lib.hid (show ¬ Full ks S (n - j - 1) j num from fun h => by have := h.1; unfold top60 at this; omega)
    clear ht
    go_wp2_with fail
    have HC := two_read H4.out.1 (.int .i64 0) (.slice none 0 0)
    refine bodyPost_ret (v := .tuple #[.agg #[.int .i64 0, .slice none 0 0], .int .i64 4]) ?_ rfl ⟨.inl ⟨rfl, HN.out⟩, two_below H4.out.2.2.2 (Nat.le_succ _)⟩
    have hc0 := HC.1
    have hc1 := HC.2
    simp [results, Tryz.results71, go_sem, hc0, hc1]
  · have e0 : decide ((1152921504606846976 : Int) < (num : Int)) = false := by simp; omega
    have HT := Lib.hid ht
    clear ht
    by_cases hc1' : cnt < 1
    · have e1 : decide ((cnt : Int) < 1) = true := by simp; omega
      have HN := Lib.hid (show ¬ Full ks S (n - j - 1) j num from fun h => by have := h.2.1; rw [HF.out.2.2] at this; omega)
      clear hc1'
      go_wp2_with fail
      have HC := two_read H4.out.1 (.int .i64 0) (.slice none 0 0)
      refine bodyPost_ret (v := .tuple #[.agg #[.int .i64 0, .slice none 0 0], .int .i64 4]) ?_ rfl ⟨.inl ⟨rfl, HN.out⟩, two_below H4.out.2.2.2 (Nat.le_succ _)⟩
      have hc0 := HC.1
      have hc1 := HC.2
      simp [results, Tryz.results71, go_sem, hc0, hc1]
    · have e1 : decide ((cnt : Int) < 1) = false := by simp; omega
      have HC1 := Lib.hid hc1'
      clear hc1'
      have MOST := fun (w : World) => jmost_any (D := D) (j := j) (w := w) (by omega)
      have HM := Lib.hid MOST
      clear MOST
      by_cases hc2 : j / 2 < cnt
      · have h1 : ((j / 2 : Nat) : Int) < (cnt : Int) := by omega
        have h1' : decide (j / 2 < cnt) = true := by simpa using hc2
        have HN := Lib.hid (show ¬ Full ks S (n - j - 1) j num from fun h => by have := h.2.2.1; rw [HF.out.2.2] at this; omega)
        clear hc2
        go_wp2_with (go_at_call 61; refine (HM.out _).mono ?_; rintro e w5 ⟨rfl, hb⟩; have hr5 := H4.out.1.below hb H4.out.1.lt; have ⟨r0, r1⟩ := blk_pair hr5; have rf0 := hr5.frozen 0; have rf1 := hr5.frozen 1; have H5 := Lib.hid (And.intro hr5 (below_of H4.out.2.2.2 hb)); clear hb hr5)
        have HC := two_read H5.out.1 (.int .i64 0) (.slice none 0 0)
        refine bodyPost_ret (v := .tuple #[.agg #[.int .i64 0, .slice none 0 0], .int .i64 4]) ?_ rfl ⟨.inl ⟨rfl, HN.out⟩, two_below H5.out.2 (Nat.le_succ _)⟩
        have hc0 := HC.1
        have hc1 := HC.2
        simp [results, Tryz.results71, go_sem, hc0, hc1]
      · have h1 : ¬ ((j / 2 : Nat) : Int) < (cnt : Int) := by omega
        have h1' : decide (j / 2 < cnt) = false := by simpa using hc2
        have hcj : 2 * cnt ≤ j := by omega
        go_wp2_with (go_at_call 61; refine (HM.out _).mono ?_; rintro e w5 ⟨rfl, hb⟩; have hl5 := H4.out.2.1.below hb H4.out.2.1.lt; have ⟨l0, l1⟩ := blk_pair hl5; have H5 := Lib.hid (And.intro (H4.out.1.below hb H4.out.1.lt) (And.intro hl5 (And.intro (H4.out.2.2.1.below hb) (below_of H4.out.2.2.2 hb)))); clear hb hl5)
        refine (gathered_any B _ D L n j S cw cf num cnt H5.out.2.2.1 hj hnum hcj).mono ?_
        rintro e w6 ⟨k, vw, vn, hk, hall, hnot, rfl, how, hnt, hW⟩
        obtain ⟨Pw, cw1, rfl⟩ := how.form
        obtain ⟨Pn, cn1, rfl⟩ : ∃ P c, vn = .slice P k c := by obtain ⟨cells, h, _⟩ := hnt; exact own_sl h
        have hb7 := new_below w6 (.cells #[.int .i64 num, .slice Pw k cw1] 99)
        have ht7 := Blk.new w6 99 [.int .i64 num, .slice Pw k cw1]
        have ⟨t0, t1⟩ := blk_pair ht7
        have hr7 := (H5.out.1.below hW H5.out.1.lt).below hb7 (H5.out.1.below hW H5.out.1.lt).lt
        have ⟨r0, r1⟩ := blk_pair hr7
        have rf0 := hr7.frozen 0
        have rf1 := hr7.frozen 1
        have hsz5 := H5.out.2.2.2.size
        have hsz6 := hW.size
        have H7 := Lib.hid (And.intro hr7 (And.intro (below_of H5.out.2.2.2 (below_of hW hb7)) (And.intro (how.below hb7) (And.intro (hnt.below hb7) (And.intro ht7 (And.intro hall hnot))))))
        clear hr7 hW hb7 ht7 how hnt hall hnot
        by_cases hkc : k < cnt
        · have e2 : decide ((k : Int) < (cnt : Int)) = true := by simp; omega
          have e3 : decide (k < cnt) = true := by simpa using hkc
          have HN := Lib.hid (show ¬ Full ks S (n - j - 1) j num from fun h => H7.out.2.2.2.2.2.2 hkc (by have := h.2.2.2.1; rw [HF.out.2.2] at this; exact this k hkc))
          clear hkc hc2
          go_wp2_with fail
          have HC := two_read H7.out.1 (.int .i64 0) (.slice none 0 0)
          refine bodyPost_ret (v := .tuple #[.agg #[.int .i64 0, .slice none 0 0], .int .i64 4]) ?_ rfl ⟨.inl ⟨rfl, HN.out⟩, two_below H7.out.2.1 (Nat.le_succ _)⟩
          have hc0 := HC.1
          have hc1 := HC.2
          simp [results, Tryz.results71, go_sem, hc0, hc1]
        · obtain rfl : k = cnt := by omega
          have e2 : decide ((k : Int) < (k : Int)) = false := by simp
          have e3 : decide (k < k) = false := by simp
          clear hkc
          go_wp2_with fail
          have hall := H7.out.2.2.2.2.2.1
          have HP := Lib.hid (H7.out.2.2.2.1.parts (by have := HC1.out; omega))
          refine (is_any ks _ (fun g => w5.heap.size ≤ g) (fun _ => True) num k Pw Pn cw1 cn1 (wrsTo S k) (notesTo S k) (HK.out.below H7.out.2.1 hpos) (H7.out.2.2.1.wrs (fun g hg => hg)) HP.out hnum (by omega) ?_).mono ?_
          · intro p hp
            obtain ⟨i, hi, rfl⟩ := List.mem_map.1 hp
            have hik := List.mem_range.1 hi
            have h3 := (hall i hik).2.2
            refine ⟨by unfold wAt; omega, by unfold wAt; show ((fromB (sub (S (1 + 2 * i)) 16 4) : Nat) : Int) ≤ _; omega, ?_⟩
            exact H5.out.2.2.1.sec (by omega)
          rintro e w8 ⟨hres, hW⟩
          have hr8 := H7.out.1.below hW H7.out.1.lt
          have ht8 := H7.out.2.2.2.2.1.below hW H7.out.2.2.2.2.1.lt
          have ⟨r0, r1⟩ := blk_pair hr8
          have rf0 := hr8.frozen 0
          have rf1 := hr8.frozen 1
          have ⟨t0, t1⟩ := blk_pair ht8
          have H8 := Lib.hid (And.intro hr8 (And.intro (below_of H7.out.2.1 hW) (And.intro (H7.out.2.2.1.below hW) ht8)))
          clear hW hr8 ht8 hall
          rcases hres with ⟨rfl, hfull⟩ | ⟨rfl, hno⟩
          · have HFU := Lib.hid (show Full ks S (n - j - 1) j num from ⟨by have := HT.out; unfold top60; omega, by rw [HF.out.2.2]; have := HC1.out; omega, by rw [HF.out.2.2]; omega, by rw [HF.out.2.2]; exact H7.out.2.2.2.2.2.1, by rw [HF.out.2.2]; exact hfull⟩)
            clear hfull
            go_wp2_with fail
            have HC := two_read H8.out.1 (.int .i64 num) (.slice Pw k cw1)
            refine bodyPost_ret (v := .tuple #[.agg #[.int .i64 num, .slice Pw k cw1], .int .i64 0]) ?_ rfl ⟨.inr ⟨_, rfl, HFU.out, ?_⟩, two_below H8.out.2.1 (Nat.le_succ _)⟩
            · have hc0 := HC.1
              have hc1 := HC.2
              simp [results, Tryz.results71, go_sem, hc0, hc1]
            · rw [HF.out.2.2]
              exact (H8.out.2.2.1.lower H5.out.2.2.2.size (fun g hg => Nat.le_trans H5.out.2.2.2.size hg)).only1 (two_only _ _ _ _) H8.out.1
          · have HN := Lib.hid (show ¬ Full ks S (n - j - 1) j num from fun h => hno (by have := h.2.2.2.2; rw [HF.out.2.2] at this; exact this))
            clear hno
            go_wp2_with fail
            have HC := two_read H8.out.1 (.int .i64 0) (.slice none 0 0)
            refine bodyPost_ret (v := .tuple #[.agg #[.int .i64 0, .slice none 0 0], .int .i64 4]) ?_ rfl ⟨.inl ⟨rfl, HN.out⟩, two_below H8.out.2.1 (Nat.le_succ _)⟩
            have hc0 := HC.1
            have hc1 := HC.2
            simp [results, Tryz.results71, go_sem, hc0, hc1]
end Go.Proofs.YtlfgbmfojghhcaaGreatDoor
end
