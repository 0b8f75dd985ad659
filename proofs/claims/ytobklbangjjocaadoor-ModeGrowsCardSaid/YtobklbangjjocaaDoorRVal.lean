/-
  A region that draws its order, by what each operation leaves: what holds of the world may look at all values, and each operation tells its value in what it leaves. Conditions: those of each theorem.
-/
import Derived.Test.YtobklbangjjocaaDoorRInv
set_option maxRecDepth 100000
set_option linter.unusedSimpArgs false
set_option linter.unusedVariables false
namespace Go.Proofs.YtobklbangjjocaaDoor
section
variable {P : Program} {ops : Array Oper} {Q : Exit → Act → World → Prop} {md : Region.Mode}
/-- One operation's step. -/
def StepV (P : Program) (md : Region.Mode) (ops : Array Oper) (Q : Exit → Act → World → Prop) (ds : List (Option Tmp)) (V : Nat → (Nat → Value) → World → Prop) (R : (Nat → Value) → World → Prop) (Rel : Nat → Value → World → World → Prop) (a0 : Act) (i : Nat) : Prop :=
  ∀ o, ops[i]? = some o → ∀ (v : Nat → Value) (w : World), R v w → (∀ e ∈ o.after, Region.binds md e = true → V e.on v w) →
    ∀ K : Act → World → Prop, Shut (∀ x w', R (setV v i x) w' → Rel i x w w' → V i (setV v i x) w' → K ((fillR ds v 0 a0).put o.dst x) w') →
      if Region.wanted o (yielded ops (fillR ds v 0 a0).tmps) = true then Oper.wp P o (fillR ds v 0 a0) w K Q else K ((fillR ds v 0 a0).put o.dst undef) w
theorem StepV.of {ds : List (Option Tmp)} {V : Nat → (Nat → Value) → World → Prop} {R : (Nat → Value) → World → Prop} {Rel : Nat → Value → World → World → Prop} {a0 : Act} {i : Nat} {o : Oper} (ho : ops[i]? = some o) (deps : List Nat)
    (hd : waitsR md ops i deps = true)
    (h : ∀ (v : Nat → Value) (w : World), R v w → (∀ j ∈ deps, V j v w) → ∀ K : Act → World → Prop, Shut (∀ x w', R (setV v i x) w' → Rel i x w w' → V i (setV v i x) w' → K ((fillR ds v 0 a0).put o.dst x) w') →
      if Region.wanted o (yielded ops (fillR ds v 0 a0).tmps) = true then Oper.wp P o (fillR ds v 0 a0) w K Q else K ((fillR ds v 0 a0).put o.dst undef) w) : StepV P md ops Q ds V R Rel a0 i := by
  intro o' ho' v w hR hdep K hK
  rw [ho] at ho'
  cases ho'
  refine h v w hR (fun j hj => ?_) K hK
  unfold waitsR at hd
  rw [ho] at hd
  have := List.all_eq_true.1 hd j hj
  obtain ⟨q, hq, he⟩ := Array.any_eq_true.1 this
  simp only [Bool.and_eq_true, beq_iff_eq] at he
  have := hdep o.after[q] (Array.getElem_mem _) he.1
  rwa [he.2] at this

theorem wpAny_vals (ds : List (Option Tmp)) (hds : ops.toList.map (·.dst) = ds) (hap : apartR ds = true) (hl : lexR ops = true)
    (V : Nat → (Nat → Value) → World → Prop) (look : Nat → List Nat) (R : (Nat → Value) → World → Prop) (Rel : Nat → Value → World → World → Prop) (a0 : Act)
    (hlook : ∀ i, i < ops.size → waitsR md ops i (look i) = true)
    (hst : ∀ i k v x w w', k ≠ i → k ∉ look i → V i v w → Rel k x w w' → V i (setV v k x) w')
    (hstep : ∀ i, i < ops.size → StepV P md ops Q ds V R Rel a0 i)
    (hfin : ∀ (v : Nat → Value) (w : World), R v w → (∀ i, i < ops.size → V i v w) → Q .normal (fillR ds v 0 a0) w) :
    ∀ (fuel : Nat) (listed : Array Bool) (v : Nat → Value) (w : World), listed.size = ops.size → leftR listed ≤ fuel → R v w → (∀ i, listed.getD i false = true → V i v w ∧ ∀ j ∈ look i, listed.getD j false = true) →
      wpAny P md ops Q fuel listed (fillR ds v 0 a0) w := by
  intro fuel
  induction fuel with
  | zero =>
    intro listed v w hs hf hR hV
    have hall : ∀ i, i < ops.size → listed.getD i false = true := by
      intro i hi
      cases hb : listed.getD i false with
      | true => rfl
      | false =>
        have h' : listed.getD i true = false := by simpa [hs, hi] using hb
        have := leftR_set h'
        omega
    refine ⟨?_, hfin v w hR (fun i hi => (hV i (hall i hi)).1)⟩
    cases hr : Region.ready md ops listed with
    | nil => rfl
    | cons i rs =>
      have hm : i ∈ Region.ready md ops listed := by rw [hr]; simp
      obtain ⟨h0, o, ho, _⟩ := mem_ready.1 hm
      have hi := (Array.getElem?_eq_some_iff.1 ho).1
      have := hall i hi
      simp [hs, hi] at this h0
      rw [this] at h0
      cases h0
  | succ fuel ih =>
    intro listed v w hs hf hR hV
    refine ⟨fun hr => hfin v w hR (fun i hi => (hV i (all_listed hl hs hr i hi)).1), fun i hi => ?_⟩
    obtain ⟨h0, o, ho, hall⟩ := mem_ready.1 hi
    have hil := (Array.getElem?_eq_some_iff.1 ho).1
    refine wpOp_step ho fun K hK => hstep i hil o ho v w hR (fun e he hb => (hV e.on (hall e he hb)).1) K ?_
    intro x w' hR' hrel hV'
    refine hK _ _ ?_
    have hd : ds[i]? = some o.dst := by
      rw [← hds, List.getElem?_map]
      have : ops.toList[i]? = some o := by simpa using ho
      rw [this]
      rfl
    rw [put_fill ds hap v 0 a0 i o.dst x hd, Nat.zero_add]
    refine ih _ _ _ (by simpa using hs) (by have := leftR_set h0; omega) hR' fun j hj => ?_
    by_cases hji : j = i
    · subst hji
      refine ⟨hV', fun k hk => ?_⟩
      have hw := hlook j hil
      unfold waitsR at hw
      rw [ho] at hw
      have := List.all_eq_true.1 hw k hk
      obtain ⟨q, hq, he⟩ := Array.any_eq_true.1 this
      simp only [Bool.and_eq_true, beq_iff_eq] at he
      have hl' := hall o.after[q] (Array.getElem_mem _) he.1
      rw [he.2] at hl'
      exact getD_set_mono hl'
    · have hlj : listed.getD j false = true := by rw [getD_set_ne false (Ne.symm hji)] at hj; exact hj
      obtain ⟨hvj, hlk⟩ := hV j hlj
      refine ⟨hst j i v x _ _ (Ne.symm hji) (fun hi' => ?_) hvj hrel, fun k hk => getD_set_mono (hlk k hk)⟩
      have h1 := hlk i hi'
      have hil' : i < listed.size := by omega
      simp [hil'] at h0 h1
      rw [h1] at h0
      cases h0

theorem wp_region_vals (ds : List (Option Tmp)) (V : Nat → (Nat → Value) → World → Prop) (look : Nat → List Nat) (R : (Nat → Value) → World → Prop) (Rel : Nat → Value → World → World → Prop) (n : Nat) {id : Nat} {a0 : Act} {w : World} (hm : P.follows .mixedOrders = true)
    (hn : ops.size = n) (hds : ops.toList.map (·.dst) = ds) (hap : apartR ds = true) (hl : lexR ops = true) (v0 : Nat → Value) (hv0 : ∀ i t, ds[i]? = some (some t) → v0 i = a0.tmps.getD t undef) (hR : R v0 w.drew)
    (hlook : ∀ i, i < n → waitsR .any ops i (look i) = true)
    (hst : ∀ i k v x w w', k ≠ i → k ∉ look i → V i v w → Rel k x w w' → V i (setV v k x) w')
    (hstep : ∀ i, i < n → StepV P .any ops Q ds V R Rel a0 i)
    (hfin : ∀ (v : Nat → Value) (w : World), R v w → (∀ i, i < n → V i v w) → Q .normal (fillR ds v 0 a0) w) : (Code.region id ops true).wp P Q a0 w := by
  subst hn
  refine wp_region_any hm ?_
  have hfill : fillR ds v0 0 a0 = a0 := by
    refine fill_start a0 ds 0 _ (fun i t ht => ?_)
    rw [Nat.zero_add]
    exact hv0 i t ht
  have := wpAny_vals (P := P) (Q := Q) (md := .any) ds hds hap hl V look R Rel a0 hlook hst hstep hfin ops.size (Array.replicate ops.size false) v0 w.drew (by simp) ?_ hR ?_
  · rw [hfill] at this
    exact this
  · unfold leftR
    refine Nat.le_trans List.countP_le_length ?_
    simp
  · intro i hi
    exfalso
    rcases Nat.lt_or_ge i ops.size with h' | h'
    · simp [h'] at hi
    · simp [Nat.not_lt.2 h'] at hi
end
end Go.Proofs.YtobklbangjjocaaDoor
