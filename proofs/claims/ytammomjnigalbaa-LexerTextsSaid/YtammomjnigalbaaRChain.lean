/-
  A region that draws its order, some of whose operations form a chain (each waits for the one ahead of it, at whatever remove) and turn memory that others look at: what holds of the world is told by how far the chain has come. Conditions: those of the theorems.
-/
import Derived.Test.YtammomjnigalbaaRQuick
set_option linter.unusedSimpArgs false
set_option linter.unusedVariables false
set_option maxRecDepth 100000
namespace Go.Proofs.Ytammomjnigalbaa

/-- Each operation of the chain waits for all ahead of it. -/
def ordR (md : Region.Mode) (ops : Array Oper) (chain : List Nat) : Bool := (List.range chain.length).all fun k => match chain[k]? with
  | some c => decide (c < ops.size) && (List.range k).all fun j => match chain[j]? with
    | some d => (ancR md ops ops.size c).contains d
    | none => true
  | none => true
section
variable {P : Program} {ops : Array Oper} {Q : Exit → Act → World → Prop} {md : Region.Mode}
/-- One operation's step, where the chain has come so far. -/
def StepP (P : Program) (md : Region.Mode) (ops : Array Oper) (Q : Exit → Act → World → Prop) (chain : List Nat) (ds : List (Option Tmp)) (V : Nat → (Nat → Value) → World → Prop) (R : Nat → World → Prop) (Rel : Nat → World → World → Prop) (a0 : Act) (i : Nat) : Prop :=
  ∀ o, ops[i]? = some o → ∀ (p q : Nat), (chain[p]? = some i ∧ q = p + 1 ∨ i ∉ chain ∧ q = p) → (∀ k c, chain[k]? = some c → (ancR md ops ops.size c).contains i = true → p ≤ k) → (∀ k c, chain[k]? = some c → (ancR md ops ops.size i).contains c = true → k < p) →
    ∀ (v : Nat → Value) (w : World), R p w → (∀ e ∈ o.after, Region.binds md e = true → V e.on v w) →
    ∀ K : Act → World → Prop, Shut (∀ x w', R q w' → Rel i w w' → V i (setV v i x) w' → K ((fillR ds v 0 a0).put o.dst x) w') →
      if Region.wanted o (yielded ops (fillR ds v 0 a0).tmps) = true then Oper.wp P o (fillR ds v 0 a0) w K Q else K ((fillR ds v 0 a0).put o.dst undef) w
theorem closed_none : ClosedR md ops (Array.replicate ops.size false) := by
  intro i hi
  rcases Nat.lt_or_ge i ops.size with h' | h'
  · simp [h'] at hi
  · simp [Nat.not_lt.2 h'] at hi
theorem wpAny_chain (chain : List Nat) (ds : List (Option Tmp)) (hds : ops.toList.map (·.dst) = ds) (hap : apartR ds = true) (hl : lexA md ops = true) (ho : ordR md ops chain = true)
    (V : Nat → (Nat → Value) → World → Prop) (R : Nat → World → Prop) (Rel : Nat → World → World → Prop) (a0 : Act)
    (hloc : ∀ i v j x w, V i v w → j ≠ i → V i (setV v j x) w)
    (hst : ∀ i k v w w', k ≠ i → V i v w → Rel k w w' → V i v w')
    (hstep : ∀ i, i < ops.size → StepP P md ops Q chain ds V R Rel a0 i)
    (hfin : ∀ (v : Nat → Value) (w : World), R chain.length w → (∀ i, i < ops.size → V i v w) → Q .normal (fillR ds v 0 a0) w) :
    ∀ (fuel : Nat) (listed : Array Bool) (p : Nat) (v : Nat → Value) (w : World), listed.size = ops.size → leftR listed ≤ fuel → ClosedR md ops listed → p ≤ chain.length → (∀ k c, chain[k]? = some c → (listed.getD c false = true ↔ k < p)) → R p w → (∀ i, listed.getD i false = true → V i v w) →
      wpAny P md ops Q fuel listed (fillR ds v 0 a0) w := by
  have hcs : ∀ k c, chain[k]? = some c → c < ops.size := fun k c hk => by
    have h1 := List.all_eq_true.1 ho k (List.mem_range.2 (List.getElem?_eq_some_iff.1 hk).1)
    simp only [hk, Bool.and_eq_true, decide_eq_true_eq] at h1
    exact h1.1
  have hco : ∀ k c j d, chain[k]? = some c → j < k → chain[j]? = some d → (ancR md ops ops.size c).contains d = true := fun k c j d hk hj hd => by
    have h1 := List.all_eq_true.1 ho k (List.mem_range.2 (List.getElem?_eq_some_iff.1 hk).1)
    simp only [hk, Bool.and_eq_true, decide_eq_true_eq] at h1
    have h2 := List.all_eq_true.1 h1.2 j (List.mem_range.2 hj)
    rw [hd] at h2
    exact h2
  have hend : ∀ (listed : Array Bool) (p : Nat), p ≤ chain.length → (∀ k c, chain[k]? = some c → (listed.getD c false = true ↔ k < p)) → (∀ i, i < ops.size → listed.getD i false = true) → p = chain.length := by
    intro listed p hp hk hall
    rcases Nat.lt_or_ge p chain.length with h | h
    · obtain ⟨c, hc⟩ : ∃ c, chain[p]? = some c := ⟨_, List.getElem?_eq_getElem h⟩
      have := (hk p c hc).1 (hall c (hcs p c hc))
      omega
    · omega
  intro fuel
  induction fuel with
  | zero =>
    intro listed p v w hs hf hcl hp hk hR hV
    have hall : ∀ i, i < ops.size → listed.getD i false = true := by
      intro i hi
      cases hb : listed.getD i false with
      | true => rfl
      | false =>
        have h' : listed.getD i true = false := by simpa [hs, hi] using hb
        have := leftR_set h'
        omega
    have hpe := hend listed p hp hk hall
    subst hpe
    refine ⟨?_, hfin v w hR (fun i hi => hV i (hall i hi))⟩
    cases hr : Region.ready md ops listed with
    | nil => rfl
    | cons i rs =>
      have hm : i ∈ Region.ready md ops listed := by rw [hr]; simp
      obtain ⟨h0, o, ho, _⟩ := mem_ready.1 hm
      have hi := (Array.getElem?_eq_some_iff.1 ho).1
      have := hall i hi
      simp [hs, hi] at this h0
      rw [this] at h0
      cases h0
  | succ fuel ih =>
    intro listed p v w hs hf hcl hp hk hR hV
    refine ⟨fun hr => ?_, fun i hi => ?_⟩
    · have hall := all_listedA hl hs hr
      have hpe := hend listed p hp hk hall
      subst hpe
      exact hfin v w hR (fun i hi => hV i (hall i hi))
    obtain ⟨h0, o, hoo, hall⟩ := mem_ready.1 hi
    have hil := (Array.getElem?_eq_some_iff.1 hoo).1
    have h0' : listed.getD i false = false := by
      have : i < listed.size := by omega
      simpa [this] using h0
    have hall' : ∀ o', ops[i]? = some o' → ∀ e ∈ o'.after, Region.binds md e = true → listed.getD e.on false = true := fun o' ho' => by
      rw [hoo] at ho'
      cases ho'
      exact hall
    have hlo : ∀ k c, chain[k]? = some c → (ancR md ops ops.size i).contains c = true → k < p := fun k c hc ha => (hk k c hc).1 (anc_listed hcl ops.size i hall' c (by simpa using ha))
    have hhi : ∀ k c, chain[k]? = some c → (ancR md ops ops.size c).contains i = true → p ≤ k := fun k c hc ha => by
      rcases Nat.lt_or_ge k p with h | h
      · have hlc := (hk k c hc).2 h
        have := anc_listed hcl ops.size c (hcl c hlc) i (by simpa using ha)
        rw [h0'] at this
        cases this
      · exact h
    obtain ⟨q, hq, hq2, hq3⟩ : ∃ q, (chain[p]? = some i ∧ q = p + 1 ∨ i ∉ chain ∧ q = p) ∧ q ≤ chain.length ∧ ∀ k c, chain[k]? = some c → ((listed.setIfInBounds i true).getD c false = true ↔ k < q) := by
      by_cases hic : i ∈ chain
      · obtain ⟨k, hki⟩ := List.getElem?_of_mem hic
        have hkp : ¬ k < p := fun h => by
          have := (hk k i hki).2 h
          rw [h0'] at this
          cases this
        have hpk : p = k := by
          rcases Nat.lt_or_ge p k with h | h
          · obtain ⟨d, hd⟩ : ∃ d, chain[p]? = some d := ⟨_, List.getElem?_eq_getElem (by have := (List.getElem?_eq_some_iff.1 hki).1; omega)⟩
            have := hlo p d hd (hco k i p d hki h hd)
            omega
          · omega
        subst hpk
        refine ⟨p + 1, .inl ⟨hki, rfl⟩, (List.getElem?_eq_some_iff.1 hki).1, fun j c hc => ?_⟩
        by_cases hci : c = i
        · subst hci
          constructor
          · intro _
            rcases Nat.lt_or_ge p j with h | h
            · have := hlo p c hki (hco j c p c hc h hki)
              omega
            · omega
          · intro _
            exact getD_set_own h0
        · rw [getD_set_ne false (Ne.symm hci)]
          rw [hk j c hc]
          constructor
          · intro h; omega
          · intro h
            rcases Nat.lt_or_ge j p with h' | h'
            · exact h'
            · have : j = p := by omega
              subst this
              rw [hki] at hc
              cases hc
              exact absurd rfl hci
      · refine ⟨p, .inr ⟨hic, rfl⟩, hp, fun j c hc => ?_⟩
        have hci : c ≠ i := fun e => hic (e ▸ List.mem_of_getElem? hc)
        rw [getD_set_ne false (Ne.symm hci)]
        exact hk j c hc
    have hd : ds[i]? = some o.dst := by
      rw [← hds, List.getElem?_map]
      have : ops.toList[i]? = some o := by simpa using hoo
      rw [this]
      rfl
    refine wpOp_step hoo fun K hK => hstep i hil o hoo p q hq hhi hlo v w hR (fun e he hb => hV e.on (hall e he hb)) K ?_
    intro x w' hR' hrel hV'
    refine hK _ _ ?_
    rw [put_fill ds hap v 0 a0 i o.dst x hd, Nat.zero_add]
    refine ih _ q _ _ (by simpa using hs) (by have := leftR_set h0; omega) (closed_set hcl hoo hall) hq2 hq3 hR' fun j hj => ?_
    by_cases hji : j = i
    · subst hji
      exact hV'
    · have hlj : listed.getD j false = true := by rw [getD_set_ne false (Ne.symm hji)] at hj; exact hj
      exact hloc j v i x w' (hst j i _ _ _ (Ne.symm hji) (hV j hlj) hrel) (Ne.symm hji)
theorem wp_region_chain (chain : List Nat) (ds : List (Option Tmp)) (V : Nat → (Nat → Value) → World → Prop) (R : Nat → World → Prop) (Rel : Nat → World → World → Prop) (n : Nat) {id : Nat} {a0 : Act} {w : World} (hm : P.follows .mixedOrders = true)
    (hn : ops.size = n) (hds : ops.toList.map (·.dst) = ds) (hap : apartR ds = true) (hl : lexA .any ops = true) (ho : ordR .any ops chain = true) (hR : R 0 w.drew)
    (hloc : ∀ i v j x w, V i v w → j ≠ i → V i (setV v j x) w)
    (hst : ∀ i k v w w', k ≠ i → V i v w → Rel k w w' → V i v w')
    (hstep : ∀ i, i < n → StepP P .any ops Q chain ds V R Rel a0 i)
    (hfin : ∀ (v : Nat → Value) (w : World), R chain.length w → (∀ i, i < n → V i v w) → Q .normal (fillR ds v 0 a0) w) : (Code.region id ops true).wp P Q a0 w := by
  subst hn
  refine wp_region_any hm ?_
  have hfill : fillR ds (fun i => match ds[i]? with | some (some t) => a0.tmps.getD t undef | _ => undef) 0 a0 = a0 := by
    refine fill_start a0 ds 0 _ (fun i t ht => ?_)
    simp only [Nat.zero_add, ht]
  have hno : ∀ i, (Array.replicate ops.size false).getD i false = false := fun i => by
    rcases Nat.lt_or_ge i ops.size with h' | h'
    · simp [h']
    · simp [Nat.not_lt.2 h']
  have := wpAny_chain (P := P) (Q := Q) (md := .any) chain ds hds hap hl ho V R Rel a0 hloc hst hstep hfin ops.size (Array.replicate ops.size false) 0 (fun i => match ds[i]? with | some (some t) => a0.tmps.getD t undef | _ => undef) w.drew (by simp) ?_ closed_none (Nat.zero_le _) (fun k c _ => by rw [hno c]; simp) hR ?_
  · rw [hfill] at this
    exact this
  · unfold leftR
    refine Nat.le_trans List.countP_le_length ?_
    simp
  · intro i hi
    rw [hno i] at hi
    cases hi
section
variable {chain : List Nat} {ds : List (Option Tmp)} {V : Nat → (Nat → Value) → World → Prop} {R : Nat → World → Prop} {Rel : Nat → World → World → Prop} {a0 : Act} {i : Nat} {o : Oper}
theorem deps_of (ho : ops[i]? = some o) (deps : List Nat) (hd : waitsR md ops i deps = true) {v : Nat → Value} {w : World} (h : ∀ e ∈ o.after, Region.binds md e = true → V e.on v w) : ∀ j ∈ deps, V j v w := by
  intro j hj
  unfold waitsR at hd
  rw [ho] at hd
  have := List.all_eq_true.1 hd j hj
  obtain ⟨q, hq, he⟩ := Array.any_eq_true.1 this
  simp only [Bool.and_eq_true, beq_iff_eq] at he
  have := h o.after[q] (Array.getElem_mem _) he.1
  rwa [he.2] at this
/-- An operation that yields a value, not of the chain. -/
theorem StepP.val (ho : ops[i]? = some o) (hc : chain.contains i = false) (deps : List Nat) (hd : waitsR md ops i deps = true)
    (h : ∀ (p : Nat), (∀ k c, chain[k]? = some c → (ancR md ops ops.size c).contains i = true → p ≤ k) → (∀ k c, chain[k]? = some c → (ancR md ops ops.size i).contains c = true → k < p) → ∀ (v : Nat → Value) (w : World), R p w → (∀ j ∈ deps, V j v w) → Region.wanted o (yielded ops (fillR ds v 0 a0).tmps) = true ∧ ∃ x w', (execOp (fillR ds v 0 a0).eval o).run P w = .ok (.value x) w' ∧ R p w' ∧ Rel i w w' ∧ V i (setV v i x) w') : StepP P md ops Q chain ds V R Rel a0 i := by
  intro o' ho' p q hq hhi hlo v w hR hdep K hK
  rw [ho] at ho'
  cases ho'
  have hqp : q = p := by
    rcases hq with ⟨h1, _⟩ | ⟨_, h2⟩
    · have := List.mem_of_getElem? h1
      simp at hc
      exact absurd this hc
    · exact h2
  subst hqp
  obtain ⟨hw, x, w', hr, h1, h2, h3⟩ := h q hhi hlo v w hR (deps_of ho deps hd hdep)
  rw [if_pos hw]
  unfold Oper.wp
  rw [hr]
  exact hK.out x w' h1 h2 h3
theorem chain_at {p q k : Nat} (hc : chain[k]? = some i) (hn : chain.Nodup) (hq : chain[p]? = some i ∧ q = p + 1 ∨ i ∉ chain ∧ q = p) : p = k ∧ q = k + 1 := by
  rcases hq with ⟨h1, h2⟩ | ⟨h1, _⟩
  · have := (List.getElem?_inj (List.getElem?_eq_some_iff.1 h1).1 hn).1 (h1.trans hc.symm)
    omega
  · exact absurd (List.mem_of_getElem? hc) h1
/-- .. of the chain. -/
theorem StepP.cval (k : Nat) (ho : ops[i]? = some o) (hc : chain[k]? = some i) (hn : decide chain.Nodup = true) (deps : List Nat) (hd : waitsR md ops i deps = true)
    (h : ∀ (v : Nat → Value) (w : World), R k w → (∀ j ∈ deps, V j v w) → Region.wanted o (yielded ops (fillR ds v 0 a0).tmps) = true ∧ ∃ x w', (execOp (fillR ds v 0 a0).eval o).run P w = .ok (.value x) w' ∧ R (k + 1) w' ∧ Rel i w w' ∧ V i (setV v i x) w') : StepP P md ops Q chain ds V R Rel a0 i := by
  intro o' ho' p q hq hhi hlo v w hR hdep K hK
  rw [ho] at ho'
  cases ho'
  obtain ⟨rfl, rfl⟩ := chain_at hc (of_decide_eq_true hn) hq
  obtain ⟨hw, x, w', hr, h1, h2, h3⟩ := h v w hR (deps_of ho deps hd hdep)
  rw [if_pos hw]
  unfold Oper.wp
  rw [hr]
  exact hK.out x w' h1 h2 h3
/-- A store, of the chain. -/
theorem StepP.cskip (k : Nat) (ho : ops[i]? = some o) (hc : chain[k]? = some i) (hn : decide chain.Nodup = true) (deps : List Nat) (hd : waitsR md ops i deps = true)
    (h : ∀ (v : Nat → Value) (w : World), R k w → (∀ j ∈ deps, V j v w) → Region.wanted o (yielded ops (fillR ds v 0 a0).tmps) = true ∧ ∃ w', (execOp (fillR ds v 0 a0).eval o).run P w = .ok .skip w' ∧ R (k + 1) w' ∧ Rel i w w' ∧ V i (setV v i undef) w') : StepP P md ops Q chain ds V R Rel a0 i := by
  intro o' ho' p q hq hhi hlo v w hR hdep K hK
  rw [ho] at ho'
  cases ho'
  obtain ⟨rfl, rfl⟩ := chain_at hc (of_decide_eq_true hn) hq
  obtain ⟨hw, w', hr, h1, h2, h3⟩ := h v w hR (deps_of ho deps hd hdep)
  rw [if_pos hw]
  unfold Oper.wp
  rw [hr]
  exact hK.out undef w' h1 h2 h3
/-- A call of a Go function, of the chain. -/
theorem StepP.ccall (k : Nat) (ho : ops[i]? = some o) (hc : chain[k]? = some i) (hn : decide chain.Nodup = true) (deps : List Nat) (hd : waitsR md ops i deps = true)
    (h : ∀ (v : Nat → Value) (w : World), R k w → (∀ j ∈ deps, V j v w) → Region.wanted o (yielded ops (fillR ds v 0 a0).tmps) = true ∧ ∃ f args w1, (execOp (fillR ds v 0 a0).eval o).run P w = .ok (.enter f args) w1 ∧
      Calls P f args w1 fun e w' => ∃ x, e = .returned x ∧ R (k + 1) w' ∧ Rel i w w' ∧ V i (setV v i x) w') : StepP P md ops Q chain ds V R Rel a0 i := by
  intro o' ho' p q hq hhi hlo v w hR hdep K hK
  rw [ho] at ho'
  cases ho'
  obtain ⟨rfl, rfl⟩ := chain_at hc (of_decide_eq_true hn) hq
  obtain ⟨hw, f, args, w1, hr, hcl⟩ := h v w hR (deps_of ho deps hd hdep)
  rw [if_pos hw]
  unfold Oper.wp
  rw [hr]
  refine hcl.mono ?_
  rintro e w' ⟨x, rfl, h1, h2, h3⟩
  exact hK.out x w' h1 h2 h3
/-- A call of a Go function, not of the chain. -/
theorem StepP.call (ho : ops[i]? = some o) (hc : chain.contains i = false) (deps : List Nat) (hd : waitsR md ops i deps = true)
    (h : ∀ (p : Nat), (∀ k c, chain[k]? = some c → (ancR md ops ops.size c).contains i = true → p ≤ k) → (∀ k c, chain[k]? = some c → (ancR md ops ops.size i).contains c = true → k < p) → ∀ (v : Nat → Value) (w : World), R p w → (∀ j ∈ deps, V j v w) → Region.wanted o (yielded ops (fillR ds v 0 a0).tmps) = true ∧ ∃ f args w1, (execOp (fillR ds v 0 a0).eval o).run P w = .ok (.enter f args) w1 ∧
      Calls P f args w1 fun e w' => ∃ x, e = .returned x ∧ R p w' ∧ Rel i w w' ∧ V i (setV v i x) w') : StepP P md ops Q chain ds V R Rel a0 i := by
  intro o' ho' p q hq hhi hlo v w hR hdep K hK
  rw [ho] at ho'
  cases ho'
  have hqp : q = p := by
    rcases hq with ⟨h1, _⟩ | ⟨_, h2⟩
    · have := List.mem_of_getElem? h1
      simp at hc
      exact absurd this hc
    · exact h2
  subst hqp
  obtain ⟨hw, f, args, w1, hr, hcl⟩ := h q hhi hlo v w hR (deps_of ho deps hd hdep)
  rw [if_pos hw]
  unfold Oper.wp
  rw [hr]
  refine hcl.mono ?_
  rintro e w' ⟨x, rfl, h1, h2, h3⟩
  exact hK.out x w' h1 h2 h3
end
end
section
variable {P : Program} {ρ : Operand → Value} {o : Oper} {w w' : World}
theorem x_store {t : TypeId} {x y : Operand} {a b : Value} (ho : o.op = .store t x y) (hx : ρ x = a) (hy : ρ y = b) (hr : (Instr.storeAt t a b).run P w = .ok () w') : (execOp ρ o).run P w = .ok .skip w' := by
  unfold execOp
  rw [ho]
  simp only [hx, hy, Sem.run_bind, hr]
  rfl
end
end Go.Proofs.Ytammomjnigalbaa
