/-
  A region that draws its order, within a round of a range over a function: the rule by what each operation leaves serves there too. Conditions: those of the theorem; no operation defers.
-/
import Derived.Test.YtammomjnigalbaaRInv
import Derived.OrdersIn
import Derived.RangeFuncOwn
import Derived.RangeFuncCalls
set_option maxRecDepth 100000
set_option linter.unusedSimpArgs false
set_option linter.unusedVariables false
namespace Go.Proofs.Ytammomjnigalbaa

theorem rows_in {n : Nat} {P : Program} {row : String} {args : Array Value} {w : World} {R : Value → World → Prop} (h : Rows P row args w R) : RowsIn Fence.wide n P row args w R :=
  fun c cs _ => let ⟨v, w', r, s⟩ := h c cs; ⟨v, w', r, stepsIn_wide.2 s⟩
/-- One operation. -/
theorem oper_in {n l : Nat} {P : Program} {o : Oper} {a : Act} {w : World} {K : Act → World → Prop} {Q : Exit → Act → World → Prop} (hnd : ∀ c, o.op ≠ .defer c) (h : o.wp P a w K Q) : o.wpIn (Fence.wide.inRound l) n P a w K Q := by
  refine ⟨fun _ _ => trivial, ?_⟩
  rw [Oper.semAt_eq _ _ _ hnd]
  unfold Oper.wp at h
  generalize (execOp a.eval o).run P w = r at *
  cases r with
  | ok x w' =>
    cases x <;> first
      | exact h
      | exact h.elim
      | exact ⟨fun hd => by simp [Fence.wide] at hd, CallsIn.inRound l (callsIn_wide.2 (Calls.mono h fun e w'' he => by cases e <;> exact he))⟩
      | exact ⟨fun hd => by simp [Fence.wide] at hd, rows_in h⟩
  | halt x w' => cases x <;> exact h
section
variable {P : Program} {ops : Array Oper} {Q : Exit → Act → World → Prop} {md : Region.Mode}
theorem any_in {n l : Nat} (hnd : ∀ o ∈ ops.toList, ∀ c, o.op ≠ .defer c) (hno : ¬ LetsOut Q) : ∀ (fuel : Nat) (listed : Array Bool) (a : Act) (w : World), wpAny P md ops Q fuel listed a w → wpAnyIn (Fence.wide.inRound l) n P md ops Q fuel listed a w
  | 0, _, _, _, h => h
  | fuel + 1, listed, a, w, h => ⟨h.1, fun i hi => by
    have := h.2 i hi
    unfold wpOp at this
    unfold wpOpIn
    split
    · rename_i he
      rw [he] at this
      exact any_in hnd hno fuel _ _ _ this
    · rename_i o ho
      rw [ho] at this
      simp only at this
      have hmem : o ∈ ops.toList := by
        obtain ⟨hi, e⟩ := Array.getElem?_eq_some_iff.1 ho
        rw [← e]
        exact Array.getElem_mem_toList hi
      split
      · rename_i hw
        rw [if_pos hw] at this
        rcases this with this | ⟨_, hl⟩
        · exact oper_in (hnd o hmem) (Oper.wp_mono (fun a w => any_in hnd hno fuel _ a w) this)
        · exact absurd hl hno
      · rename_i hw
        rw [if_neg hw] at this
        exact ⟨fun _ _ => trivial, any_in hnd hno fuel _ _ _ this⟩⟩
/-- Does an operation defer? -/
def defers_ (o : Oper) : Bool := match o.op with | .defer _ => true | _ => false
theorem no_defers {ops : Array Oper} (h : ops.toList.all (fun o => !defers_ o) = true) : ∀ o ∈ ops.toList, ∀ c, o.op ≠ .defer c := by
  intro o ho c e
  have := List.all_eq_true.1 h o ho
  unfold defers_ at this
  rw [e] at this
  cases this
theorem wpIn_region_look {n l : Nat} (ds : List (Option Tmp)) (V : Nat → (Nat → Value) → World → Prop) (look : Nat → List Nat) (R : World → Prop) (Rel : Nat → World → World → Prop) (m : Nat) {id : Nat} {a0 : Act} {w : World} (hm : P.follows .mixedOrders = true)
    (hnd : ops.toList.all (fun o => !defers_ o) = true) (hno : ¬ LetsOut Q)
    (hn : ops.size = m) (hds : ops.toList.map (·.dst) = ds) (hap : apartR ds = true) (hl : lexR ops = true) (hR : R w.drew)
    (hloc : ∀ i v j x w, V i v w → j ≠ i → j ∉ look i → V i (setV v j x) w)
    (hlook : ∀ i, i < m → waitsR .any ops i (look i) = true)
    (hst : ∀ i k v w w', k ≠ i → V i v w → Rel k w w' → V i v w')
    (hstep : ∀ i, i < m → StepL P .any ops Q ds V R Rel a0 i)
    (hfin : ∀ (v : Nat → Value) (w : World), R w → (∀ i, i < m → V i v w) → Q .normal (fillR ds v 0 a0) w) : (Code.region id ops true).wpIn (Fence.wide.inRound l) n P Q a0 w := by
  subst hn
  refine wpIn_region_any hm (any_in (no_defers hnd) hno _ _ _ _ ?_)
  have hfill : fillR ds (fun i => match ds[i]? with | some (some t) => a0.tmps.getD t undef | _ => undef) 0 a0 = a0 := by
    refine fill_start a0 ds 0 _ (fun i t ht => ?_)
    simp only [Nat.zero_add, ht]
  have := wpAny_look (P := P) (Q := Q) (md := .any) ds hds hap hl V look R Rel a0 hloc hlook hst hstep hfin ops.size (Array.replicate ops.size false) (fun i => match ds[i]? with | some (some t) => a0.tmps.getD t undef | _ => undef) w.drew (by simp) ?_ hR ?_
  · rw [hfill] at this
    exact this
  · unfold leftR
    refine Nat.le_trans List.countP_le_length ?_
    simp
  · intro i hi
    exfalso
    rcases Nat.lt_or_ge i ops.size with h' | h'
    · simp [h'] at hi
    · simp [Nat.not_lt.2 h'] at hi
end
end Go.Proofs.Ytammomjnigalbaa
