/-
  A region that draws its order, whose last operations wait for all ahead of them: whatever the order of the others, each one's word holds ahead of those, and those come one by one. Within a round of a range over a function, too. Conditions: those of the theorems.
-/
import Derived.Test.YtammomjnigalbaaRLast
import Derived.Test.YtammomjnigalbaaRIn
set_option linter.unusedSimpArgs false
set_option linter.unusedVariables false
set_option maxRecDepth 100000
namespace Go.Proofs.Ytammomjnigalbaa

/-- Which earlier operations an operation waits for, at whatever remove. -/
def ancR (md : Region.Mode) (ops : Array Oper) : Nat → Nat → List Nat
  | 0, _ => []
  | k + 1, i => match ops[i]? with
    | some o => (o.after.toList.filter (Region.binds md)).flatMap fun e => e.on :: ancR md ops k e.on
    | none => []
/-- Does each operation from L on wait for all ahead of it? -/
def tailR (md : Region.Mode) (ops : Array Oper) (L : Nat) : Bool := (List.range ops.size).all fun i => decide (i < L) || (List.range i).all fun j => (ancR md ops ops.size i).contains j
section
variable {P : Program} {ops : Array Oper} {Q : Exit → Act → World → Prop} {md : Region.Mode}
/-- What is listed is so with all that it waits for. -/
def ClosedR (md : Region.Mode) (ops : Array Oper) (listed : Array Bool) : Prop := ∀ i, listed.getD i false = true → ∀ o, ops[i]? = some o → ∀ e ∈ o.after, Region.binds md e = true → listed.getD e.on false = true
theorem anc_listed {listed : Array Bool} (hc : ClosedR md ops listed) : ∀ (k i : Nat), (∀ o, ops[i]? = some o → ∀ e ∈ o.after, Region.binds md e = true → listed.getD e.on false = true) → ∀ j ∈ ancR md ops k i, listed.getD j false = true
  | 0, _, _, j, hj => by cases hj
  | k + 1, i, hi, j, hj => by
    unfold ancR at hj
    split at hj
    · rename_i o ho
      obtain ⟨e, he, hj⟩ := List.mem_flatMap.1 hj
      obtain ⟨h1, h2⟩ := List.mem_filter.1 he
      have hl := hi o ho e (by simpa using h1) h2
      rcases List.mem_cons.1 hj with rfl | hj
      · exact hl
      · exact anc_listed hc k e.on (hc e.on hl) j hj
    · cases hj
theorem tail_ready {listed : Array Bool} {L i : Nat} (ht : tailR md ops L = true) (hc : ClosedR md ops listed) (hL : L ≤ i) {o : Oper} (ho : ops[i]? = some o) (hall : ∀ e ∈ o.after, Region.binds md e = true → listed.getD e.on false = true) : ∀ j, j < i → listed.getD j false = true := by
  intro j hj
  have hi := (Array.getElem?_eq_some_iff.1 ho).1
  have h1 := List.all_eq_true.1 ht i (List.mem_range.2 hi)
  simp only [Bool.or_eq_true, decide_eq_true_eq] at h1
  rcases h1 with h1 | h1
  · omega
  · have h2 := List.all_eq_true.1 h1 j (List.mem_range.2 hj)
    refine anc_listed hc ops.size i (fun o' ho' => ?_) j (by simpa using h2)
    rw [ho] at ho'
    cases ho'
    exact hall
theorem getD_tf {listed : Array Bool} {i : Nat} (hi : i < listed.size) : listed.getD i true = listed.getD i false := by simp [hi]
theorem closed_set {listed : Array Bool} {i : Nat} (hc : ClosedR md ops listed) {o : Oper} (ho : ops[i]? = some o) (hall : ∀ e ∈ o.after, Region.binds md e = true → listed.getD e.on false = true) : ClosedR md ops (listed.setIfInBounds i true) := by
  intro j hj o' ho' e he hb
  by_cases hji : j = i
  · subst hji
    rw [ho] at ho'
    cases ho'
    exact getD_set_mono (hall e he hb)
  · rw [getD_set_ne false (Ne.symm hji)] at hj
    exact getD_set_mono (hc j hj o' ho' e he hb)
theorem wpAny_list (hl : lexR ops = true) {L : Nat} (ht : tailR md ops L = true) : ∀ (fuel : Nat) (listed : Array Bool) (i : Nat) (a : Act) (w : World), listed.size = ops.size → L ≤ i → i ≤ ops.size → (∀ j, j < i → listed.getD j false = true) → (∀ j, i ≤ j → listed.getD j false = false) → ops.size - i ≤ fuel →
    wpList P ops Q (ops.toList.drop i) a w → wpAny P md ops Q fuel listed a w := by
  intro fuel
  induction fuel with
  | zero =>
    intro listed i a w hs hL hi h1 h2 hf h
    obtain rfl : i = ops.size := by omega
    rw [List.drop_of_length_le (by simp)] at h
    exact wpAny_done a w hs h1 h 0
  | succ fuel ih =>
    intro listed i a w hs hL hi h1 h2 hf h
    rcases Nat.lt_or_ge i ops.size with hlt | hge
    · refine ⟨fun hr => ?_, fun j hj => ?_⟩
      · have := all_listed hl hs hr i hlt
        rw [h2 i (Nat.le_refl _)] at this
        cases this
      · obtain ⟨h0, o, ho, hall⟩ := mem_ready.1 hj
        have hjl := (Array.getElem?_eq_some_iff.1 ho).1
        rw [getD_tf (by omega)] at h0
        have hji : i ≤ j := by
          rcases Nat.lt_or_ge j i with h | h
          · rw [h1 j h] at h0; cases h0
          · exact h
        have hcl : ClosedR md ops listed := by
          intro k hk o' ho' e he hb
          have hk' : k < i := by
            rcases Nat.lt_or_ge k i with h | h
            · exact h
            · rw [h2 k h] at hk; cases hk
          have hkl := (Array.getElem?_eq_some_iff.1 ho').1
          have := List.all_eq_true.1 hl k (List.mem_range.2 hkl)
          rw [ho'] at this
          simp only [Array.all_eq_true_iff_forall_mem, decide_eq_true_eq] at this
          exact h1 _ (by have := this e he; omega)
        have hij : j = i := by
          rcases Nat.lt_or_ge i j with h | h
          · have := tail_ready ht hcl (by omega) ho hall i h
            rw [h2 i (Nat.le_refl _)] at this
            cases this
          · omega
        subst hij
        have hd : ops.toList.drop j = o :: ops.toList.drop (j + 1) := by
          rw [List.drop_eq_getElem_cons (by simpa using hjl)]
          congr 1
          rw [Array.getElem?_eq_getElem hjl] at ho
          simpa using ho
        rw [hd] at h
        have next : ∀ a w, wpList P ops Q (ops.toList.drop (j + 1)) a w → wpAny P md ops Q fuel (listed.setIfInBounds j true) a w := fun a w h => by
          refine ih _ (j + 1) a w (by simpa using hs) (by omega) (by omega) (fun k hk => ?_) (fun k hk => ?_) (by omega) h
          · by_cases hkj : k = j
            · subst hkj
              exact getD_set_own (by rw [getD_tf (by omega)]; exact h0)
            · exact getD_set_mono (h1 k (by omega))
          · rw [getD_set_ne false (by omega)]
            exact h2 k (by omega)
        unfold wpOp
        rw [ho]
        unfold wpList at h
        simp only
        split
        · rename_i hw
          rw [if_pos hw] at h
          rcases h with h | h
          · exact .inl (Oper.wp_mono next h)
          · exact .inr h
        · rename_i hw
          rw [if_neg hw] at h
          exact next _ _ h
    · obtain rfl : i = ops.size := by omega
      rw [List.drop_of_length_le (by simp)] at h
      exact wpAny_done a w hs h1 h _
theorem wpAny_tail (ds : List (Option Tmp)) (hds : ops.toList.map (·.dst) = ds) (hap : apartR ds = true) (hl : lexR ops = true)
    (V : Nat → (Nat → Value) → World → Prop) (R : World → Prop) (Rel : Nat → World → World → Prop) (a0 : Act) (L : Nat) (hL : L < ops.size) (ht : tailR md ops L = true)
    (hloc : ∀ i v j x w, V i v w → j ≠ i → V i (setV v j x) w)
    (hst : ∀ i k v w w', k ≠ i → V i v w → Rel k w w' → V i v w')
    (hstep : ∀ i, i < L → StepL P md ops Q ds V R Rel a0 i)
    (htail : ∀ v w, R w → (∀ i, i < L → V i v w) → wpList P ops Q (ops.toList.drop L) (fillR ds v 0 a0) w) :
    ∀ (fuel : Nat) (listed : Array Bool) (v : Nat → Value) (w : World), listed.size = ops.size → leftR listed ≤ fuel → ClosedR md ops listed → (∀ j, L ≤ j → listed.getD j false = false) → R w → (∀ i, listed.getD i false = true → V i v w) →
      wpAny P md ops Q fuel listed (fillR ds v 0 a0) w := by
  intro fuel
  induction fuel with
  | zero =>
    intro listed v w hs hf hc h2 hR hV
    have h0 : listed.getD L true = false := by rw [getD_tf (by omega)]; exact h2 L (Nat.le_refl _)
    have := leftR_set h0
    omega
  | succ fuel ih =>
    intro listed v w hs hf hc h2 hR hV
    refine ⟨fun hr => ?_, fun i hi => ?_⟩
    · have := all_listed hl hs hr L hL
      rw [h2 L (Nat.le_refl _)] at this
      cases this
    obtain ⟨h0, o, ho, hall⟩ := mem_ready.1 hi
    have hil := (Array.getElem?_eq_some_iff.1 ho).1
    by_cases hiL : i < L
    · have hd : ds[i]? = some o.dst := by
        rw [← hds, List.getElem?_map]
        have : ops.toList[i]? = some o := by simpa using ho
        rw [this]
        rfl
      refine wpOp_step ho fun K hK => hstep i hiL o ho v w hR (fun e he hb => hV e.on (hall e he hb)) K ?_
      intro x w' hR' hrel hV'
      refine hK _ _ ?_
      rw [put_fill ds hap v 0 a0 i o.dst x hd, Nat.zero_add]
      refine ih _ _ _ (by simpa using hs) (by have := leftR_set h0; omega) (closed_set hc ho hall) (fun j hj => by rw [getD_set_ne false (by omega)]; exact h2 j hj) hR' fun j hj => ?_
      by_cases hji : j = i
      · subst hji
        exact hV'
      · have hlj : listed.getD j false = true := by rw [getD_set_ne false (Ne.symm hji)] at hj; exact hj
        exact hloc j v i x w' (hst j i _ _ _ (Ne.symm hji) (hV j hlj) hrel) (Ne.symm hji)
    · have hpre := tail_ready ht hc (by omega) ho hall
      have hiL' : i = L := by
        rcases Nat.lt_or_ge L i with h | h
        · have := hpre L h
          rw [h2 L (Nat.le_refl _)] at this
          cases this
        · omega
      subst hiL'
      have hfull : wpAny P md ops Q (fuel + 1) listed (fillR ds v 0 a0) w := by
        have h3 : ops.size - i ≤ fuel + 1 := by
          have : ops.size - i ≤ leftR listed := by
            unfold leftR
            have e : listed.toList = listed.toList.take i ++ listed.toList.drop i := (List.take_append_drop _ _).symm
            rw [e, List.countP_append]
            have hall' : (listed.toList.drop i).countP (fun b => !b) = (listed.toList.drop i).length := by
              rw [List.countP_eq_length]
              intro b hb
              obtain ⟨k, hk, rfl⟩ := List.getElem_of_mem hb
              rw [List.getElem_drop]
              have hk' : i + k < listed.size := by simp at hk; omega
              have := h2 (i + k) (by omega)
              simp [hk'] at this
              simpa using this
            rw [hall']
            simp
            omega
          omega
        exact wpAny_list hl ht (fuel + 1) listed i _ w hs (Nat.le_refl _) (by omega) hpre h2 h3 (htail v w hR fun j hj => hV j (hpre j hj))
      exact hfull.2 i hi
theorem wpAny_tail0 (ds : List (Option Tmp)) (V : Nat → (Nat → Value) → World → Prop) (R : World → Prop) (Rel : Nat → World → World → Prop) (L m : Nat) {a0 : Act} {w : World}
    (hm : ops.size = m) (hL : L < m) (hds : ops.toList.map (·.dst) = ds) (hap : apartR ds = true) (hl : lexR ops = true) (ht : tailR md ops L = true) (hR : R w)
    (hloc : ∀ i v j x w, V i v w → j ≠ i → V i (setV v j x) w)
    (hst : ∀ i k v w w', k ≠ i → V i v w → Rel k w w' → V i v w')
    (hstep : ∀ i, i < L → StepL P md ops Q ds V R Rel a0 i)
    (htail : ∀ v w, R w → (∀ i, i < L → V i v w) → wpList P ops Q (ops.toList.drop L) (fillR ds v 0 a0) w) : wpAny P md ops Q ops.size (Array.replicate ops.size false) a0 w := by
  subst hm
  have hfill : fillR ds (fun i => match ds[i]? with | some (some t) => a0.tmps.getD t undef | _ => undef) 0 a0 = a0 := by
    refine fill_start a0 ds 0 _ (fun i t ht => ?_)
    simp only [Nat.zero_add, ht]
  have hno : ∀ i, (Array.replicate ops.size false).getD i false = false := fun i => by
    rcases Nat.lt_or_ge i ops.size with h' | h'
    · simp [h']
    · simp [Nat.not_lt.2 h']
  have := wpAny_tail (P := P) (Q := Q) (md := md) ds hds hap hl V R Rel a0 L hL ht hloc hst hstep htail ops.size (Array.replicate ops.size false) (fun i => match ds[i]? with | some (some t) => a0.tmps.getD t undef | _ => undef) w (by simp) ?_ (fun i hi => by rw [hno i] at hi; cases hi) (fun j _ => hno j) hR ?_
  · rw [hfill] at this
    exact this
  · unfold leftR
    refine Nat.le_trans List.countP_le_length ?_
    simp
  · intro i hi
    rw [hno i] at hi
    cases hi
theorem wp_region_tail (ds : List (Option Tmp)) (V : Nat → (Nat → Value) → World → Prop) (R : World → Prop) (Rel : Nat → World → World → Prop) (L m : Nat) {id : Nat} {a0 : Act} {w : World} (hmx : P.follows .mixedOrders = true)
    (hm : ops.size = m) (hL : L < m) (hds : ops.toList.map (·.dst) = ds) (hap : apartR ds = true) (hl : lexR ops = true) (ht : tailR .any ops L = true) (hR : R w.drew)
    (hloc : ∀ i v j x w, V i v w → j ≠ i → V i (setV v j x) w)
    (hst : ∀ i k v w w', k ≠ i → V i v w → Rel k w w' → V i v w')
    (hstep : ∀ i, i < L → StepL P .any ops Q ds V R Rel a0 i)
    (htail : ∀ v w, R w → (∀ i, i < L → V i v w) → wpList P ops Q (ops.toList.drop L) (fillR ds v 0 a0) w) : (Code.region id ops true).wp P Q a0 w :=
  wp_region_any hmx (wpAny_tail0 ds V R Rel L m hm hL hds hap hl ht hR hloc hst hstep htail)
theorem wpIn_region_tail {n l : Nat} (ds : List (Option Tmp)) (V : Nat → (Nat → Value) → World → Prop) (R : World → Prop) (Rel : Nat → World → World → Prop) (L m : Nat) {id : Nat} {a0 : Act} {w : World} (hmx : P.follows .mixedOrders = true)
    (hnd : ops.toList.all (fun o => !defers_ o) = true) (hno : ¬ LetsOut Q)
    (hm : ops.size = m) (hL : L < m) (hds : ops.toList.map (·.dst) = ds) (hap : apartR ds = true) (hl : lexR ops = true) (ht : tailR .any ops L = true) (hR : R w.drew)
    (hloc : ∀ i v j x w, V i v w → j ≠ i → V i (setV v j x) w)
    (hst : ∀ i k v w w', k ≠ i → V i v w → Rel k w w' → V i v w')
    (hstep : ∀ i, i < L → StepL P .any ops Q ds V R Rel a0 i)
    (htail : ∀ v w, R w → (∀ i, i < L → V i v w) → wpList P ops Q (ops.toList.drop L) (fillR ds v 0 a0) w) : (Code.region id ops true).wpIn (Fence.wide.inRound l) n P Q a0 w :=
  wpIn_region_any hmx (any_in (no_defers hnd) hno _ _ _ _ (wpAny_tail0 ds V R Rel L m hm hL hds hap hl ht hR hloc hst hstep htail))
end
theorem wpIn_hideQ {F : Fence} {n : Nat} {P : Program} {c : Code} {Q : Exit → Act → World → Prop} {a : Act} {w : World} (hno : ¬ LetsOut Q) (h : ∀ Q', ¬ LetsOut Q' → (∀ e a w, Q e a w → Q' e a w) → c.wpIn F n P Q' a w) : c.wpIn F n P Q a w := h Q hno (fun _ _ _ h => h)
end Go.Proofs.Ytammomjnigalbaa
