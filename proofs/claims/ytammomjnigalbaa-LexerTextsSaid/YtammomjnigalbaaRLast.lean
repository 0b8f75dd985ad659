/-
  A region that draws its order, whose last operation waits for all others: whatever the order, each operation's word holds ahead of the last one, and what it leaves is what the region leaves. Conditions: those of the theorem.
-/
import Derived.Test.YtammomjnigalbaaRInv
set_option maxRecDepth 100000
set_option linter.unusedSimpArgs false
set_option linter.unusedVariables false
namespace Go.Proofs.Ytammomjnigalbaa
section
variable {P : Program} {ops : Array Oper} {Q : Exit → Act → World → Prop} {md : Region.Mode}

theorem wpAny_done (a : Act) (w : World) {listed : Array Bool} (hs : listed.size = ops.size) (hall : ∀ i, i < ops.size → listed.getD i false = true) (hQ : Q .normal a w) : ∀ fuel, wpAny P md ops Q fuel listed a w := by
  have hno : ∀ i, i ∉ Region.ready md ops listed := by
    intro i hm
    obtain ⟨h0, o, ho, _⟩ := mem_ready.1 hm
    have hi := (Array.getElem?_eq_some_iff.1 ho).1
    have := hall i hi
    simp [hs, hi] at this h0
    rw [this] at h0
    cases h0
  intro fuel
  cases fuel with
  | zero => exact ⟨List.eq_nil_iff_forall_not_mem.2 hno, hQ⟩
  | succ fuel => exact ⟨fun _ => hQ, fun i hi => absurd hi (hno i)⟩

/-- What the last operation's step is to show. -/
def LastL (P : Program) (ops : Array Oper) (Q : Exit → Act → World → Prop) (ds : List (Option Tmp)) (V : Nat → (Nat → Value) → World → Prop) (R : World → Prop) (a0 : Act) (L : Nat) : Prop :=
  ∀ o, ops[L]? = some o → ∀ (v : Nat → Value) (w : World), R w → (∀ i, i < L → V i v w) → ∀ K : Act → World → Prop, Shut (∀ x w', Q .normal (fillR ds (setV v L x) 0 a0) w' → K ((fillR ds v 0 a0).put o.dst x) w') →
      if Region.wanted o (yielded ops (fillR ds v 0 a0).tmps) = true then Oper.wp P o (fillR ds v 0 a0) w K Q else K ((fillR ds v 0 a0).put o.dst undef) w
theorem LastL.of {ds : List (Option Tmp)} {V : Nat → (Nat → Value) → World → Prop} {R : World → Prop} {a0 : Act} {L : Nat} {o : Oper} (ho : ops[L]? = some o)
    (h : ∀ (v : Nat → Value) (w : World), R w → (∀ i, i < L → V i v w) → ∀ K : Act → World → Prop, Shut (∀ x w', Q .normal (fillR ds (setV v L x) 0 a0) w' → K ((fillR ds v 0 a0).put o.dst x) w') →
      if Region.wanted o (yielded ops (fillR ds v 0 a0).tmps) = true then Oper.wp P o (fillR ds v 0 a0) w K Q else K ((fillR ds v 0 a0).put o.dst undef) w) : LastL P ops Q ds V R a0 L := by
  intro o' ho'
  rw [ho] at ho'
  cases ho'
  exact h
theorem wanted_plain {o : Oper} (h : o.guard = none) (y) : Region.wanted o y = true := by unfold Region.wanted; rw [h]
theorem LastL.plain {ds : List (Option Tmp)} {V : Nat → (Nat → Value) → World → Prop} {R : World → Prop} {a0 : Act} {L : Nat} (hgd : ∀ o, ops[L]? = some o → o.guard = none)
    (h : ∀ o, ops[L]? = some o → ∀ (v : Nat → Value) (w : World), R w → (∀ i, i < L → V i v w) → ∀ K : Act → World → Prop, Shut (∀ x w', Q .normal (fillR ds (setV v L x) 0 a0) w' → K ((fillR ds v 0 a0).put o.dst x) w') → Oper.wp P o (fillR ds v 0 a0) w K Q) : LastL P ops Q ds V R a0 L := by
  intro o ho v w hR hV K hK
  rw [if_pos (wanted_plain (hgd o ho) _)]
  exact h o ho v w hR hV K hK
theorem wpAny_last (ds : List (Option Tmp)) (hds : ops.toList.map (·.dst) = ds) (hap : apartR ds = true) (hl : lexR ops = true)
    (V : Nat → (Nat → Value) → World → Prop) (R : World → Prop) (Rel : Nat → World → World → Prop) (a0 : Act) (L : Nat) (hL : ops.size = L + 1) (hw : waitsR md ops L (List.range L) = true)
    (hloc : ∀ i v j x w, V i v w → j ≠ i → V i (setV v j x) w)
    (hst : ∀ i k v w w', k ≠ i → V i v w → Rel k w w' → V i v w')
    (hstep : ∀ i, i < L → StepL P md ops Q ds V R Rel a0 i)
    (hlast : LastL P ops Q ds V R a0 L) :
    ∀ (fuel : Nat) (listed : Array Bool) (v : Nat → Value) (w : World), listed.size = ops.size → leftR listed ≤ fuel → listed.getD L true = false → R w → (∀ i, listed.getD i false = true → V i v w) →
      wpAny P md ops Q fuel listed (fillR ds v 0 a0) w := by
  intro fuel
  induction fuel with
  | zero =>
    intro listed v w hs hf h0 hR hV
    have := leftR_set h0
    omega
  | succ fuel ih =>
    intro listed v w hs hf hL0 hR hV
    refine ⟨fun hr => ?_, fun i hi => ?_⟩
    · have := all_listed hl hs hr L (by omega)
      have hLl : L < listed.size := by omega
      simp [hLl] at this hL0
      rw [this] at hL0
      cases hL0
    obtain ⟨h0, o, ho, hall⟩ := mem_ready.1 hi
    have hil := (Array.getElem?_eq_some_iff.1 ho).1
    have hd : ds[i]? = some o.dst := by
      rw [← hds, List.getElem?_map]
      have : ops.toList[i]? = some o := by simpa using ho
      rw [this]
      rfl
    by_cases hiL : i = L
    · subst hiL
      have hothers : ∀ j, j < i → listed.getD j false = true := by
        intro j hj
        have hw' := hw
        unfold waitsR at hw'
        rw [ho] at hw'
        have := List.all_eq_true.1 hw' j (List.mem_range.2 hj)
        obtain ⟨q, hq, he⟩ := Array.any_eq_true.1 this
        simp only [Bool.and_eq_true, beq_iff_eq] at he
        have hl' := hall o.after[q] (Array.getElem_mem _) he.1
        rwa [he.2] at hl'
      refine wpOp_step ho fun K hK => hlast o ho v w hR (fun j hj => hV j (hothers j hj)) K ?_
      intro x w' hQ
      refine hK _ _ ?_
      rw [put_fill ds hap v 0 a0 i o.dst x hd, Nat.zero_add]
      refine wpAny_done _ _ (by simpa using hs) (fun j hj => ?_) hQ fuel
      by_cases hji : j = i
      · subst hji
        exact getD_set_own h0
      · exact getD_set_mono (hothers j (by omega))
    · refine wpOp_step ho fun K hK => hstep i (by omega) o ho v w hR (fun e he hb => hV e.on (hall e he hb)) K ?_
      intro x w' hR' hrel hV'
      refine hK _ _ ?_
      rw [put_fill ds hap v 0 a0 i o.dst x hd, Nat.zero_add]
      refine ih _ _ _ (by simpa using hs) (by have := leftR_set h0; omega) (by rw [getD_set_ne true hiL]; exact hL0) hR' fun j hj => ?_
      by_cases hji : j = i
      · subst hji
        exact hV'
      · have hlj : listed.getD j false = true := by rw [getD_set_ne false (Ne.symm hji)] at hj; exact hj
        exact hloc j v i x w' (hst j i _ _ _ (Ne.symm hji) (hV j hlj) hrel) (Ne.symm hji)

theorem wp_region_last (ds : List (Option Tmp)) (V : Nat → (Nat → Value) → World → Prop) (R : World → Prop) (Rel : Nat → World → World → Prop) (L : Nat) {id : Nat} {a0 : Act} {w : World} (hm : P.follows .mixedOrders = true)
    (hL : ops.size = L + 1) (hds : ops.toList.map (·.dst) = ds) (hap : apartR ds = true) (hl : lexR ops = true) (hw : waitsR .any ops L (List.range L) = true) (hR : R w.drew)
    (hloc : ∀ i v j x w, V i v w → j ≠ i → V i (setV v j x) w)
    (hst : ∀ i k v w w', k ≠ i → V i v w → Rel k w w' → V i v w')
    (hstep : ∀ i, i < L → StepL P .any ops Q ds V R Rel a0 i)
    (hlast : LastL P ops Q ds V R a0 L) : (Code.region id ops true).wp P Q a0 w := by
  refine wp_region_any hm ?_
  have hfill : fillR ds (fun i => match ds[i]? with | some (some t) => a0.tmps.getD t undef | _ => undef) 0 a0 = a0 := by
    refine fill_start a0 ds 0 _ (fun i t ht => ?_)
    simp only [Nat.zero_add, ht]
  have := wpAny_last (P := P) (Q := Q) (md := .any) ds hds hap hl V R Rel a0 L hL hw hloc hst hstep hlast ops.size (Array.replicate ops.size false) (fun i => match ds[i]? with | some (some t) => a0.tmps.getD t undef | _ => undef) w.drew (by simp) ?_ ?_ hR ?_
  · rw [hfill] at this
    exact this
  · unfold leftR
    refine Nat.le_trans List.countP_le_length ?_
    simp
  · simp [hL]
  · intro i hi
    exfalso
    rcases Nat.lt_or_ge i ops.size with h' | h'
    · simp [h'] at hi
    · simp [Nat.not_lt.2 h'] at hi
end
theorem fill_size : ∀ (ds : List (Option Tmp)) (v : Nat → Value) (k : Nat) (a : Act), (fillR ds v k a).tmps.size = a.tmps.size
  | [], _, _, _ => rfl
  | d :: ds, v, k, a => by
    unfold fillR
    rw [fill_size ds v (k + 1)]
    cases d <;> simp [Act.put]
/-- What an operation's slot reads. -/
theorem fill_eval : ∀ (ds : List (Option Tmp)) (v : Nat → Value) (k : Nat) (a : Act) (i : Nat) (d : Tmp), apartR ds = true → ds[i]? = some (some d) → d < a.tmps.size → (fillR ds v k a).eval (.tmp d) = v (k + i)
  | [], _, _, _, _, _, _, h, _ => by simp at h
  | d' :: ds, v, k, a, 0, d, hn, h, hs => by
    simp only [List.getElem?_cons_zero, Option.some.injEq] at h
    subst h
    simp only [apartR, Bool.and_eq_true, Bool.not_eq_true', List.contains_eq_mem, decide_eq_false_iff_not] at hn
    unfold fillR
    rw [← put_through ds v (k + 1) a (some d) (v k) (fun t ht hm => by cases ht; exact hn.1 hm)]
    have := fill_size ds v (k + 1) a
    have h2 : d < (fillR ds v (k + 1) a).tmps.size := by rw [this]; exact hs
    simp [Act.eval, Act.put, h2]
  | d' :: ds, v, k, a, i + 1, d, hn, h, hs => by
    simp only [List.getElem?_cons_succ] at h
    have hn' : apartR ds = true := by
      cases d' with
      | none => exact hn
      | some t => simp only [apartR, Bool.and_eq_true] at hn; exact hn.2
    unfold fillR
    have hs' : d < (a.put d' (v k)).tmps.size := by cases d' <;> simpa [Act.put] using hs
    rw [fill_eval ds v (k + 1) _ i d hn' h hs', Nat.add_assoc, Nat.add_comm 1 i]
/-- What follows a piece of code, under a name. -/
theorem wp_hideQ {P : Program} {c : Code} {Q : Exit → Act → World → Prop} {a : Act} {w : World} (h : ∀ Q', (∀ e a w, Q e a w → Q' e a w) → c.wp P Q' a w) : c.wp P Q a w := h Q (fun _ _ _ h => h)
end Go.Proofs.Ytammomjnigalbaa
