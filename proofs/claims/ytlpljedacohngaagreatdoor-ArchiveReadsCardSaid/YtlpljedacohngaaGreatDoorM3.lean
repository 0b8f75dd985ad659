/-
  Drawn regions whose operations wait for later ones only on grounds that don't bind. Plain theorems on the rules; no condition.
-/
import Derived.Test.YtlpljedacohngaaGreatDoorM2
import Derived.Deep.MidRow
import Derived.IntWalk
section
set_option maxRecDepth 100000
set_option linter.unusedSimpArgs false
set_option linter.unusedVariables false
namespace Go.Proofs.YtlpljedacohngaaGreatDoor


/-- Each operation waits for earlier ones alone, on the grounds that bind. -/
def lexA (md : Region.Mode) (ops : Array Oper) : Bool := (List.range ops.size).all fun i => match ops[i]? with | some o => o.after.all fun e => !(Region.binds md e) || decide (e.on < i) | none => true

section
variable {P : Program} {ops : Array Oper} {Q : Exit → Act → World → Prop} {md : Region.Mode}

theorem all_listedA (hl : lexA md ops = true) {listed : Array Bool} (hs : listed.size = ops.size) (hr : Region.ready md ops listed = []) : ∀ i, i < ops.size → listed.getD i false = true := by
  intro i
  induction i using Nat.strongRecOn with
  | ind i ih =>
    intro hi
    cases hb : listed.getD i false with
    | true => rfl
    | false =>
      exfalso
      have hm : i ∈ Region.ready md ops listed := by
        rw [mem_ready]
        refine ⟨by simpa [hs, hi] using hb, ops[i], by simp [hi], fun e he hbd => ?_⟩
        have := List.all_eq_true.1 hl i (List.mem_range.2 hi)
        rw [Array.getElem?_eq_getElem hi] at this
        simp only [Array.all_eq_true_iff_forall_mem] at this
        have hlt : e.on < i := by
          have h1 := this e he
          simp only [Bool.or_eq_true, Bool.not_eq_true', decide_eq_true_eq] at h1
          rcases h1 with h1 | h1
          · rw [hbd] at h1; cases h1
          · exact h1
        exact ih e.on hlt (by omega)
      rw [hr] at hm
      cases hm

theorem wpAny_lookA (ds : List (Option Tmp)) (hds : ops.toList.map (·.dst) = ds) (hap : apartR ds = true) (hl : lexA md ops = true)
    (V : Nat → (Nat → Value) → World → Prop) (look : Nat → List Nat) (R : World → Prop) (Rel : Nat → World → World → Prop) (a0 : Act)
    (hloc : ∀ i v j x w, V i v w → j ≠ i → j ∉ look i → V i (setV v j x) w)
    (hlook : ∀ i, i < ops.size → waitsR md ops i (look i) = true)
    (hst : ∀ i k v w w', k ≠ i → V i v w → Rel k w w' → V i v w')
    (hstep : ∀ i, i < ops.size → StepL P md ops Q ds V R Rel a0 i)
    (hfin : ∀ (v : Nat → Value) (w : World), R w → (∀ i, i < ops.size → V i v w) → Q .normal (fillR ds v 0 a0) w) :
    ∀ (fuel : Nat) (listed : Array Bool) (v : Nat → Value) (w : World), listed.size = ops.size → leftR listed ≤ fuel → R w → (∀ i, listed.getD i false = true → V i v w ∧ ∀ j ∈ look i, listed.getD j false = true) →
      wpAny P md ops Q fuel listed (fillR ds v 0 a0) w := by
  intro fuel
  induction fuel with
  | zero =>
    intro listed v w hs hf hR hV
    have hall : ∀ i, i < ops.size → listed.getD i false = true := by
      intro i hi
      cases hb : listed.getD i false with
      | true => rfl
      | false =>
        have h' : listed.getD i true = false := by simpa [hs, hi] using hb
        have := leftR_set h'
        omega
    refine ⟨?_, hfin v w hR (fun i hi => (hV i (hall i hi)).1)⟩
    cases hr : Region.ready md ops listed with
    | nil => rfl
    | cons i rs =>
      have hm : i ∈ Region.ready md ops listed := by rw [hr]; simp
      obtain ⟨h0, o, ho, _⟩ := mem_ready.1 hm
      have hi := (Array.getElem?_eq_some_iff.1 ho).1
      have := hall i hi
      simp [hs, hi] at this h0
      rw [this] at h0
      cases h0
  | succ fuel ih =>
    intro listed v w hs hf hR hV
    refine ⟨fun hr => hfin v w hR (fun i hi => (hV i (all_listedA hl hs hr i hi)).1), fun i hi => ?_⟩
    obtain ⟨h0, o, ho, hall⟩ := mem_ready.1 hi
    have hil := (Array.getElem?_eq_some_iff.1 ho).1
    refine wpOp_step ho fun K hK => hstep i hil o ho v w hR (fun e he hb => (hV e.on (hall e he hb)).1) K ?_
    intro x w' hR' hrel hV'
    refine hK _ _ ?_
    have hd : ds[i]? = some o.dst := by
      rw [← hds, List.getElem?_map]
      have : ops.toList[i]? = some o := by simpa using ho
      rw [this]
      rfl
    rw [put_fill ds hap v 0 a0 i o.dst x hd, Nat.zero_add]
    refine ih _ _ _ (by simpa using hs) (by have := leftR_set h0; omega) hR' fun j hj => ?_
    by_cases hji : j = i
    · subst hji
      refine ⟨hV', fun k hk => ?_⟩
      have hw := hlook j hil
      unfold waitsR at hw
      rw [ho] at hw
      have := List.all_eq_true.1 hw k hk
      obtain ⟨q, hq, he⟩ := Array.any_eq_true.1 this
      simp only [Bool.and_eq_true, beq_iff_eq] at he
      have hl' := hall o.after[q] (Array.getElem_mem _) he.1
      rw [he.2] at hl'
      exact getD_set_mono hl'
    · have hlj : listed.getD j false = true := by rw [getD_set_ne false (Ne.symm hji)] at hj; exact hj
      obtain ⟨hvj, hlk⟩ := hV j hlj
      refine ⟨hloc j v i x w' (hst j i _ _ _ (Ne.symm hji) hvj hrel) (Ne.symm hji) (fun hi' => ?_), fun k hk => getD_set_mono (hlk k hk)⟩
      have h1 := hlk i hi'
      have hil' : i < listed.size := by omega
      simp [hil'] at h0 h1
      rw [h1] at h0
      cases h0

theorem wp_region_lookA (ds : List (Option Tmp)) (V : Nat → (Nat → Value) → World → Prop) (look : Nat → List Nat) (R : World → Prop) (Rel : Nat → World → World → Prop) (n : Nat) {id : Nat} {a0 : Act} {w : World} (hm : P.follows .mixedOrders = true)
    (hn : ops.size = n) (hds : ops.toList.map (·.dst) = ds) (hap : apartR ds = true) (hl : lexA .any ops = true) (hR : R w.drew)
    (hloc : ∀ i v j x w, V i v w → j ≠ i → j ∉ look i → V i (setV v j x) w)
    (hlook : ∀ i, i < n → waitsR .any ops i (look i) = true)
    (hst : ∀ i k v w w', k ≠ i → V i v w → Rel k w w' → V i v w')
    (hstep : ∀ i, i < n → StepL P .any ops Q ds V R Rel a0 i)
    (hfin : ∀ (v : Nat → Value) (w : World), R w → (∀ i, i < n → V i v w) → Q .normal (fillR ds v 0 a0) w) : (Code.region id ops true).wp P Q a0 w := by
  subst hn
  refine wp_region_any hm ?_
  have hfill : fillR ds (fun i => match ds[i]? with | some (some t) => a0.tmps.getD t undef | _ => undef) 0 a0 = a0 := by
    refine fill_start a0 ds 0 _ (fun i t ht => ?_)
    simp only [Nat.zero_add, ht]
  have := wpAny_lookA (P := P) (Q := Q) (md := .any) ds hds hap hl V look R Rel a0 hloc hlook hst hstep hfin ops.size (Array.replicate ops.size false) (fun i => match ds[i]? with | some (some t) => a0.tmps.getD t undef | _ => undef) w.drew (by simp) ?_ hR ?_
  · rw [hfill] at this
    exact this
  · unfold leftR
    refine Nat.le_trans List.countP_le_length ?_
    simp
  · intro i hi
    exfalso
    rcases Nat.lt_or_ge i ops.size with h' | h'
    · simp [h'] at hi
    · simp [Nat.not_lt.2 h'] at hi

end
end Go.Proofs.YtlpljedacohngaaGreatDoor
end

/-
  Operations of a drawn region, each by its kind: what it comes to, given what its operands read. Plain theorems on the rules; conditions: those of each.
-/

section
set_option linter.unusedSimpArgs false
set_option linter.unusedVariables false
set_option maxRecDepth 100000
namespace Go.Proofs.YtlpljedacohngaaGreatDoor

section
variable {P : Program} {ops : Array Oper} {Q : Exit → Act → World → Prop} {md : Region.Mode} {ds : List (Option Tmp)} {V : Nat → (Nat → Value) → World → Prop} {R : World → Prop} {Rel : Nat → World → World → Prop} {a0 : Act} {i : Nat} {o : Oper}

/-- An operation that yields a value. -/
theorem StepL.val (ho : ops[i]? = some o) (deps : List Nat) (hd : waitsR md ops i deps = true)
    (h : ∀ (v : Nat → Value) (w : World), R w → (∀ j ∈ deps, V j v w) → Region.wanted o (yielded ops (fillR ds v 0 a0).tmps) = true ∧ ∃ x w', (execOp (fillR ds v 0 a0).eval o).run P w = .ok (.value x) w' ∧ R w' ∧ Rel i w w' ∧ V i (setV v i x) w') : StepL P md ops Q ds V R Rel a0 i := by
  refine StepL.of ho deps hd fun v w hR hdep K hK => ?_
  obtain ⟨hw, x, w', hr, h1, h2, h3⟩ := h v w hR hdep
  rw [if_pos hw]
  unfold Oper.wp
  rw [hr]
  exact hK.out x w' h1 h2 h3
/-- An operation that isn't wanted. -/
theorem StepL.skip (ho : ops[i]? = some o) (deps : List Nat) (hd : waitsR md ops i deps = true)
    (h : ∀ (v : Nat → Value) (w : World), R w → (∀ j ∈ deps, V j v w) → Region.wanted o (yielded ops (fillR ds v 0 a0).tmps) = false ∧ Rel i w w ∧ V i (setV v i undef) w) : StepL P md ops Q ds V R Rel a0 i := by
  refine StepL.of ho deps hd fun v w hR hdep K hK => ?_
  obtain ⟨hw, h2, h3⟩ := h v w hR hdep
  rw [if_neg (by rw [hw]; decide)]
  exact hK.out undef w hR h2 h3
/-- A call of a Go function. -/
theorem StepL.call (ho : ops[i]? = some o) (deps : List Nat) (hd : waitsR md ops i deps = true)
    (h : ∀ (v : Nat → Value) (w : World), R w → (∀ j ∈ deps, V j v w) → Region.wanted o (yielded ops (fillR ds v 0 a0).tmps) = true ∧ ∃ f args w1, (execOp (fillR ds v 0 a0).eval o).run P w = .ok (.enter f args) w1 ∧
      Calls P f args w1 fun e w' => ∃ x, e = .returned x ∧ R w' ∧ Rel i w w' ∧ V i (setV v i x) w') : StepL P md ops Q ds V R Rel a0 i := by
  refine StepL.of ho deps hd fun v w hR hdep K hK => ?_
  obtain ⟨hw, f, args, w1, hr, hc⟩ := h v w hR hdep
  rw [if_pos hw]
  unfold Oper.wp
  rw [hr]
  refine hc.mono ?_
  rintro e w' ⟨x, rfl, h1, h2, h3⟩
  exact hK.out x w' h1 h2 h3
theorem wanted_yes {v : Nat → Value} {j : Nat} {b : Bool} {t : Tmp} (hg : o.guard = some (j, b)) (ho : (ops[j]?).bind (·.dst) = some t) (hap : apartR ds = true) (hj : ds[j]? = some (some t)) (ht : t < a0.tmps.size) (hv : v j = .bool b) : Region.wanted o (yielded ops (fillR ds v 0 a0).tmps) = true := by
  have h := fill_eval ds v 0 a0 j t hap hj ht
  rw [Nat.zero_add, hv] at h
  have hs := fill_size ds v 0 a0
  have h1 : (fillR ds v 0 a0).tmps[t]? = some (.bool b) := by
    have hlt : t < (fillR ds v 0 a0).tmps.size := by rw [hs]; exact ht
    rw [Array.getElem?_eq_getElem hlt]
    simp [Act.eval, hlt] at h
    rw [h]
  unfold Region.wanted yielded
  rw [hg]
  simp [ho, h1]
theorem wanted_no {v : Nat → Value} {j : Nat} {b c : Bool} {t : Tmp} (hg : o.guard = some (j, b)) (ho : (ops[j]?).bind (·.dst) = some t) (hap : apartR ds = true) (hj : ds[j]? = some (some t)) (ht : t < a0.tmps.size) (hv : v j = .bool c) (hc : (c == b) = false) : Region.wanted o (yielded ops (fillR ds v 0 a0).tmps) = false := by
  have h := fill_eval ds v 0 a0 j t hap hj ht
  rw [Nat.zero_add, hv] at h
  have hs := fill_size ds v 0 a0
  have h1 : (fillR ds v 0 a0).tmps[t]? = some (.bool c) := by
    have hlt : t < (fillR ds v 0 a0).tmps.size := by rw [hs]; exact ht
    rw [Array.getElem?_eq_getElem hlt]
    simp [Act.eval, hlt] at h
    rw [h]
  unfold Region.wanted yielded
  rw [hg]
  simp [ho, h1]
  simpa using hc
/-- .. of an operation that wasn't wanted either. -/
theorem wanted_un {v : Nat → Value} {j : Nat} {b : Bool} {t : Tmp} (hg : o.guard = some (j, b)) (ho : (ops[j]?).bind (·.dst) = some t) (hap : apartR ds = true) (hj : ds[j]? = some (some t)) (ht : t < a0.tmps.size) (hv : v j = undef) : Region.wanted o (yielded ops (fillR ds v 0 a0).tmps) = false := by
  have h := fill_eval ds v 0 a0 j t hap hj ht
  rw [Nat.zero_add, hv] at h
  have hs := fill_size ds v 0 a0
  have h1 : (fillR ds v 0 a0).tmps[t]? = some undef := by
    have hlt : t < (fillR ds v 0 a0).tmps.size := by rw [hs]; exact ht
    rw [Array.getElem?_eq_getElem hlt]
    simp [Act.eval, hlt] at h
    rw [h]
  unfold Region.wanted yielded
  rw [hg]
  simp [ho, h1, undef]
/-- What an operand reads: an operation's slot, .. -/
theorem fill_at {v : Nat → Value} {j : Nat} {t : Tmp} {x : Value} (hap : apartR ds = true) (hj : ds[j]? = some (some t)) (ht : t < a0.tmps.size) (hv : v j = x) : (fillR ds v 0 a0).eval (.tmp t) = x := by
  rw [fill_eval ds v 0 a0 j t hap hj ht, Nat.zero_add, hv]
theorem fill_other : ∀ (ds : List (Option Tmp)) (v : Nat → Value) (k : Nat) (a : Act) (t : Tmp), ds.contains (some t) = false → (fillR ds v k a).eval (.tmp t) = a.eval (.tmp t)
  | [], _, _, _, _, _ => rfl
  | d :: ds, v, k, a, t, h => by
    rw [List.contains_cons, Bool.or_eq_false_iff] at h
    unfold fillR
    rw [fill_other ds v (k + 1) _ t h.2]
    cases d with
    | none => rfl
    | some d =>
      have hne : d ≠ t := fun e => by rw [e] at h; simp at h
      simp [Act.eval, Act.put, Array.getElem?_setIfInBounds_ne hne]
/-- .. or one that no operation writes. -/
theorem fill_off {v : Nat → Value} {t : Tmp} {x : Value} (h : ds.contains (some t) = false) (hx : a0.eval (.tmp t) = x) : (fillR ds v 0 a0).eval (.tmp t) = x := (fill_other ds v 0 a0 t h).trans hx
end

section
variable {P : Program} {ρ : Operand → Value} {o : Oper} {w w' : World}
theorem x_move {x : Operand} {y : Value} (ho : o.op = .move x) (hx : ρ x = y) : (execOp ρ o).run P w = .ok (.value y) w := by
  unfold execOp; rw [ho]; simp only [hx]; rfl
theorem x_assign {x : Operand} {y : Value} (ho : o.op = .assign x) (hx : ρ x = y) : (execOp ρ o).run P w = .ok (.value y) w := by
  unfold execOp; rw [ho]; simp only [hx]; rfl
theorem x_pick_yes {c x y : Operand} {z : Value} (ho : o.op = .pick c x y) (hc : ρ c = .bool true) (hx : ρ x = z) : (execOp ρ o).run P w = .ok (.value z) w := by
  unfold execOp; rw [ho]; simp only [hc, hx]; rfl
theorem x_pick_no {c x y : Operand} {z : Value} (ho : o.op = .pick c x y) (hc : ρ c = .bool false) (hx : ρ y = z) : (execOp ρ o).run P w = .ok (.value z) w := by
  unfold execOp; rw [ho]; simp only [hc, hx]; rfl
theorem x_nil {x : Operand} {a : Addr} (ho : o.op = .nilCheck x) (hx : ρ x = .pointer (some a)) : (execOp ρ o).run P w = .ok (.value (.pointer (some a))) w := by
  unfold execOp; rw [ho]; simp only [hx]; rfl
theorem x_of {s : Sem Value} {z : Value} (ho : execOp ρ o = (do pure (.value (← s)))) (hr : s.run P w = .ok z w') : (execOp ρ o).run P w = .ok (.value z) w' := by
  rw [ho, Sem.run_bind, hr]; rfl
theorem x_load {t : TypeId} {x : Operand} {y z : Value} (ho : o.op = .load t x) (hx : ρ x = y) (hr : (Instr.loadAt t y).run P w = .ok z w') : (execOp ρ o).run P w = .ok (.value z) w' :=
  x_of (by unfold execOp; rw [ho]; simp only [hx]) hr
theorem x_field {s f : Nat} {x : Operand} {y z : Value} (ho : o.op = .fieldAddr s x f) (hx : ρ x = y) (hr : (Instr.fieldAt s y f).run P w = .ok z w') : (execOp ρ o).run P w = .ok (.value z) w' :=
  x_of (by unfold execOp; rw [ho]; simp only [hx]) hr
theorem x_index {t : TypeId} {x k : Operand} {y j z : Value} (ho : o.op = .indexAddr t x k) (hx : ρ x = y) (hk : ρ k = j) (hr : (Instr.indexAt t y j).run P w = .ok z w') : (execOp ρ o).run P w = .ok (.value z) w' :=
  x_of (by unfold execOp; rw [ho]; simp only [hx, hk]) hr
theorem x_bin {b : BinOp} {t t' : TypeId} {x k : Operand} {y j z : Value} (ho : o.op = .binOp b t x k t') (hx : ρ x = y) (hk : ρ k = j) (hr : (do eqGuard b t x k y j; binOp b t y j : Sem Value).run P w = .ok z w') : (execOp ρ o).run P w = .ok (.value z) w' :=
  x_of (by unfold execOp; rw [ho]; simp only [hx, hk]) hr
theorem x_un {b : UnOp} {t : TypeId} {x : Operand} {y z : Value} (ho : o.op = .unOp b t x) (hx : ρ x = y) (hr : (Op.unary b y).run P w = .ok z w') : (execOp ρ o).run P w = .ok (.value z) w' :=
  x_of (by unfold execOp; rw [ho]; simp only [hx]) hr
theorem x_extract {x : Operand} {vs : Array Value} {k : Nat} {z : Value} (ho : o.op = .extract x k) (hx : ρ x = .tuple vs) (hz : vs[k]? = some z) : (execOp ρ o).run P w = .ok (.value z) w :=
  x_of (s := Instr.extract (.tuple vs) k) (by unfold execOp; rw [ho]; simp only [hx]) (by unfold Instr.extract; simp only [hz]; rfl)
theorem x_box {t : TypeId} {x : Operand} {y z : Value} (ho : o.op = .box t x) (hx : ρ x = y) (hr : (Instr.box t y).run P w = .ok z w') : (execOp ρ o).run P w = .ok (.value z) w' :=
  x_of (by unfold execOp; rw [ho]; simp only [hx]) hr
theorem x_alloc {t : TypeId} {z : Value} (ho : o.op = .alloc t) (hr : (Instr.alloc t true (.tuple #[])).run P w = .ok z w') : (execOp ρ o).run P w = .ok (.value z) w' :=
  x_of (by unfold execOp; rw [ho]) hr
theorem x_build {t : TypeId} {ps : Array (Nat × Operand)} {qs : Array (Nat × Value)} {z : Value} (ho : o.op = .build t ps) (hx : ps.map (fun (i, x) => (i, ρ x)) = qs) (hr : (Instr.build t qs).run P w = .ok z w') : (execOp ρ o).run P w = .ok (.value z) w' :=
  x_of (by unfold execOp; rw [ho]; simp only [hx]) hr
theorem x_slice {t : TypeId} {n : Nat} {ps : Array (Nat × Operand)} {qs : Array (Nat × Value)} {z : Value} (ho : o.op = .buildSlice t n ps) (hx : ps.map (fun (i, x) => (i, ρ x)) = qs) (hr : (Instr.buildSlice t n qs).run P w = .ok z w') : (execOp ρ o).run P w = .ok (.value z) w' :=
  x_of (by unfold execOp; rw [ho]; simp only [hx]) hr
theorem x_conv {s t : TypeId} {x : Operand} {y z : Value} (ho : o.op = .convert s t x) (hx : ρ x = y) (hr : (convert s t y).run P w = .ok z w') : (execOp ρ o).run P w = .ok (.value z) w' :=
  x_of (by unfold execOp; rw [ho]; simp only [hx]) hr
theorem x_call {c : Call} {f : FuncId} {av : Array Value} (ho : o.op = .call c) (hf : c.callee = .value (.func f)) (hx : c.args.map ρ = av) (hr : (callFunc f (av ++ #[])).run P w = .ok (.enter f av) w) (hv : ρ (.func f) = .func (.func f) #[] #[]) : (execOp ρ o).run P w = .ok (.enter f av) w := by
  unfold execOp resolve
  rw [ho]
  simp only [hf, hx, hv]
  have : Deferred.ofValue (.func (.func f) #[] #[]) av = pure { target := .fn (.func f) #[], args := av } := by
    unfold Deferred.ofValue
    simp
  rw [this]
  exact hr
/-- A field's place within a struct. -/
def fieldOf (P : Program) (s f : Nat) : Option Nat := match P.underlying s with
  | some (.struct fs) => match fs[f]? with
    | some x => match P.info? x.type with
      | some i => if i.size = 0 then none else some x.offset
      | none => none
    | none => none
  | _ => none
theorem addr_add (b o n : Nat) : Addr.add ⟨b, o, none⟩ n = ⟨b, o + n, none⟩ := by
  unfold Addr.add
  split
  · rename_i h; subst h; rfl
  · rfl
theorem r_field {s f b x off : Nat} (hf : fieldOf P s f = some off) : (Instr.fieldAt s (.pointer (some ⟨b, x, none⟩)) f).run P w = .ok (.pointer (some ⟨b, x + off, none⟩)) w := by
  unfold fieldOf at hf
  split at hf
  · rename_i fs hu
    split at hf
    · rename_i y hy
      split at hf
      · rename_i i hi
        split at hf
        · cases hf
        · rename_i hz
          cases hf
          unfold Instr.fieldAt
          rw [Sem.run_bind, run_underlying hu w]
          simp only [Result.andThen_ok, hy, Instr.sureAddr, Sem.run_bind, Sem.run_pure]
          unfold fieldPlace
          simp only [sizeOf, typeInfo, Sem.run_bind, run_program, Result.andThen_ok, hi, Sem.run_pure, Sem.run_ite, if_neg hz, addr_add]
      · cases hf
    · cases hf
  · cases hf
/-- A type whose values have one cell. -/
def plainT (P : Program) (t : TypeId) : Bool := match P.underlying t with
  | some d => !d.isRow
  | none => false
theorem r_load {t : TypeId} {a : Addr} {z : Value} (hp : plainT P t = true) (hc : w.cell? a = some z) : (Instr.loadAt t (.pointer (some a))).run P w = .ok z w := by
  obtain ⟨d, hu, hd⟩ : ∃ d, P.underlying t = some d ∧ d.isRow = false := by
    unfold plainT at hp
    split at hp
    · rename_i d hu
      exact ⟨d, hu, by simpa using hp⟩
    · cases hp
  have hagg : (isAgg t).run P w = .ok false w := by
    unfold isAgg
    rw [Sem.run_bind, run_underlying hu w]
    cases d <;> simp_all
  simp only [Instr.loadAt, Instr.sureAddr, Sem.run_bind, Sem.run_pure, Result.andThen_ok, loadVar, hagg, Bool.false_eq_true, if_false, run_load, hc]
/-- A type whose values are so many cells in a row. -/
def rowT (P : Program) (t : TypeId) (n : Nat) : Bool := match P.underlying t, P.info? t with
  | some d, some i => d.isRow && i.size == n
  | _, _ => false
theorem r_loadR {t : TypeId} {b o : Nat} {cs : List Value} (hp : rowT P t cs.length = true) (hc : w.rangeAt b o cs) : (Instr.loadAt t (.pointer (some ⟨b, o, none⟩))).run P w = .ok (.agg cs.toArray) w := by
  obtain ⟨d, i, hu, hi, hd, hs⟩ : ∃ d i, P.underlying t = some d ∧ P.info? t = some i ∧ d.isRow = true ∧ i.size = cs.length := by
    unfold rowT at hp
    split at hp
    · rename_i d i hu hi
      rw [Bool.and_eq_true] at hp
      exact ⟨d, i, hu, hi, hp.1, by simpa using hp.2⟩
    · cases hp
  exact run_loadAt_mid w b o t cs d hc hu hd (by rw [hi]; simp [hs])
theorem r_index {t e : TypeId} {g x n c : Nat} {i : Int} {size off : Nat} {ik : IntKind} (hu : P.underlying t = some (.slice e)) (hs : (P.info? e).map (·.size) = some size) (h0 : 0 ≤ i) (h1 : i < n) (ho : x + i.toNat * size = off) : (Instr.indexAt t (.slice (some ⟨g, x, none⟩) n c) (.int ik i)).run P w = .ok (.pointer (some ⟨g, off, none⟩)) w := by
  cases hq : P.info? e with
  | none => simp [hq] at hs
  | some inf =>
    have hsz : inf.size = size := by simpa [hq] using hs
    unfold Instr.indexAt
    simp only [asIntOf, Sem.run_bind, Sem.run_pure, Result.andThen_ok, run_underlying hu w]
    simp [h0, h1, sizeOf, typeInfo, hq, hsz, addr_add, ho]
end
section
variable {P : Program} {ρ : Operand → Value} {o : Oper} {w : World} {t : TypeId} {x k : Operand} {ik : IntKind} {a b : Int}
theorem r_lss {z : Bool} (h : decide (a < b) = z) : (do eqGuard .lss t x k (.int ik a) (.int ik b); binOp .lss t (.int ik a) (.int ik b) : Sem Value).run P w = .ok (.bool z) w := by
  subst h; simp [eqGuard, binOp, Op.intCmp]
theorem r_leq {z : Bool} (h : decide (a ≤ b) = z) : (do eqGuard .leq t x k (.int ik a) (.int ik b); binOp .leq t (.int ik a) (.int ik b) : Sem Value).run P w = .ok (.bool z) w := by
  subst h; simp [eqGuard, binOp, Op.intCmp]
theorem r_gtr {z : Bool} (h : decide (b < a) = z) : (do eqGuard .gtr t x k (.int ik a) (.int ik b); binOp .gtr t (.int ik a) (.int ik b) : Sem Value).run P w = .ok (.bool z) w := by
  subst h; simp [eqGuard, binOp, Op.intCmp]
theorem r_geq {z : Bool} (h : decide (b ≤ a) = z) : (do eqGuard .geq t x k (.int ik a) (.int ik b); binOp .geq t (.int ik a) (.int ik b) : Sem Value).run P w = .ok (.bool z) w := by
  subst h; simp [eqGuard, binOp, Op.intCmp]
theorem r_eql {z : Bool} (h : decide (a = b) = z) : (do eqGuard .eql t x k (.int ik a) (.int ik b); binOp .eql t (.int ik a) (.int ik b) : Sem Value).run P w = .ok (.bool z) w := by
  subst h; simp [eqGuard, binOp, Op.intCmp]; exact (Bool.eq_iff_iff.2 (by simp))
theorem r_neq {z : Bool} (h : decide (a = b) = !z) : (do eqGuard .neq t x k (.int ik a) (.int ik b); binOp .neq t (.int ik a) (.int ik b) : Sem Value).run P w = .ok (.bool z) w := by
  have e : (a == b) = !z := by rw [← h]; exact (Bool.eq_iff_iff.2 (by simp))
  simp [eqGuard, binOp, Op.intCmp, bne, e]
theorem r_add {a b c : Int} (h : a + b = c) (h0 : -9223372036854775808 ≤ c) (h1 : c ≤ 9223372036854775807) : (do eqGuard .add t x k (.int .i64 a) (.int .i64 b); binOp .add t (.int .i64 a) (.int .i64 b) : Sem Value).run P w = .ok (.int .i64 c) w := by
  have := IntWalk.i64_in c ⟨h0, h1⟩
  simp [eqGuard, binOp, Op.intArith, h, this]
theorem r_sub {a b c : Int} (h : a - b = c) (h0 : -9223372036854775808 ≤ c) (h1 : c ≤ 9223372036854775807) : (do eqGuard .sub t x k (.int .i64 a) (.int .i64 b); binOp .sub t (.int .i64 a) (.int .i64 b) : Sem Value).run P w = .ok (.int .i64 c) w := by
  have := IntWalk.i64_in c ⟨h0, h1⟩
  simp [eqGuard, binOp, Op.intArith, h, this]
theorem r_mul {a b c : Int} (h : a * b = c) (h0 : -9223372036854775808 ≤ c) (h1 : c ≤ 9223372036854775807) : (do eqGuard .mul t x k (.int .i64 a) (.int .i64 b); binOp .mul t (.int .i64 a) (.int .i64 b) : Sem Value).run P w = .ok (.int .i64 c) w := by
  have := IntWalk.i64_in c ⟨h0, h1⟩
  simp [eqGuard, binOp, Op.intArith, h, this]
theorem r_not {b z : Bool} (h : (!b) = z) : (Op.unary .not (.bool b)).run P w = .ok (.bool z) w := by
  subst h; rfl
def sliceT (P : Program) (t : TypeId) : Bool := match P.underlying t with
  | some (.slice _) => true
  | _ => false
theorem x_len {c : Call} {y : Operand} {p : Option Addr} {n q : Nat} (ho : o.op = .call c) (hc : c.callee = .builtin .len) (ha : c.args = #[y]) (ht : c.argTypes = #[t]) (hp : sliceT P t = true) (hy : ρ y = .slice p n q) : (execOp ρ o).run P w = .ok (.value (.int .i64 n)) w := by
  obtain ⟨e, hu⟩ : ∃ e, P.underlying t = some (.slice e) := by
    unfold sliceT at hp
    split at hp
    · rename_i e hu
      exact ⟨e, hu⟩
    · cases hp
  unfold execOp resolve
  rw [ho]
  simp only [hc, ha, ht, Sem.run_bind, Sem.run_pure, Result.andThen_ok]
  simp [invoke, builtin, Builtin.len_, hy, run_underlying hu w, goInt]
end
/-- A cell that lies somewhere else in the same words. -/
theorem range_five {w : World} {g o : Nat} {x0 x1 x2 x3 x4 : Value} (h0 : w.cell? ⟨g, o, none⟩ = some x0) (h1 : w.cell? ⟨g, o + 1, none⟩ = some x1) (h2 : w.cell? ⟨g, o + 2, none⟩ = some x2) (h3 : w.cell? ⟨g, o + 3, none⟩ = some x3) (h4 : w.cell? ⟨g, o + 4, none⟩ = some x4) : w.rangeAt g o [x0, x1, x2, x3, x4] := by
  intro j v hj
  match j, hj with
  | 0, hj => cases hj; exact h0
  | 1, hj => cases hj; exact h1
  | 2, hj => cases hj; exact h2
  | 3, hj => cases hj; exact h3
  | 4, hj => cases hj; exact h4
  | j + 5, hj => simp at hj
theorem range_four {w : World} {g o : Nat} {x0 x1 x2 x3 : Value} (h0 : w.cell? ⟨g, o, none⟩ = some x0) (h1 : w.cell? ⟨g, o + 1, none⟩ = some x1) (h2 : w.cell? ⟨g, o + 2, none⟩ = some x2) (h3 : w.cell? ⟨g, o + 3, none⟩ = some x3) : w.rangeAt g o [x0, x1, x2, x3] := by
  intro j v hj
  match j, hj with
  | 0, hj => cases hj; exact h0
  | 1, hj => cases hj; exact h1
  | 2, hj => cases hj; exact h2
  | 3, hj => cases hj; exact h3
  | j + 4, hj => simp at hj
end Go.Proofs.YtlpljedacohngaaGreatDoor
end

/-
  A region that draws its order, some of whose operations form a chain (each waits for the one ahead of it, at whatever remove) and turn memory that others look at: what holds of the world is told by how far the chain has come. Conditions: those of the theorems.
-/

section
set_option linter.unusedSimpArgs false
set_option linter.unusedVariables false
set_option maxRecDepth 100000
namespace Go.Proofs.YtlpljedacohngaaGreatDoor

/-- Each operation of the chain waits for all ahead of it. -/
def ordR (md : Region.Mode) (ops : Array Oper) (chain : List Nat) : Bool := (List.range chain.length).all fun k => match chain[k]? with
  | some c => decide (c < ops.size) && (List.range k).all fun j => match chain[j]? with
    | some d => (ancR md ops ops.size c).contains d
    | none => true
  | none => true
section
variable {P : Program} {ops : Array Oper} {Q : Exit → Act → World → Prop} {md : Region.Mode}
/-- One operation's step, where the chain has come so far. -/
def StepP (P : Program) (md : Region.Mode) (ops : Array Oper) (Q : Exit → Act → World → Prop) (chain : List Nat) (ds : List (Option Tmp)) (V : Nat → (Nat → Value) → World → Prop) (R : Nat → World → Prop) (Rel : Nat → World → World → Prop) (a0 : Act) (i : Nat) : Prop :=
  ∀ o, ops[i]? = some o → ∀ (p q : Nat), (chain[p]? = some i ∧ q = p + 1 ∨ i ∉ chain ∧ q = p) → (∀ k c, chain[k]? = some c → (ancR md ops ops.size c).contains i = true → p ≤ k) → (∀ k c, chain[k]? = some c → (ancR md ops ops.size i).contains c = true → k < p) →
    ∀ (v : Nat → Value) (w : World), R p w → (∀ e ∈ o.after, Region.binds md e = true → V e.on v w) →
    ∀ K : Act → World → Prop, Shut (∀ x w', R q w' → Rel i w w' → V i (setV v i x) w' → K ((fillR ds v 0 a0).put o.dst x) w') →
      if Region.wanted o (yielded ops (fillR ds v 0 a0).tmps) = true then Oper.wp P o (fillR ds v 0 a0) w K Q else K ((fillR ds v 0 a0).put o.dst undef) w
theorem closed_none : ClosedR md ops (Array.replicate ops.size false) := by
  intro i hi
  rcases Nat.lt_or_ge i ops.size with h' | h'
  · simp [h'] at hi
  · simp [Nat.not_lt.2 h'] at hi
theorem wpAny_chain (chain : List Nat) (ds : List (Option Tmp)) (hds : ops.toList.map (·.dst) = ds) (hap : apartR ds = true) (hl : lexA md ops = true) (ho : ordR md ops chain = true)
    (V : Nat → (Nat → Value) → World → Prop) (R : Nat → World → Prop) (Rel : Nat → World → World → Prop) (a0 : Act)
    (hloc : ∀ i v j x w, V i v w → j ≠ i → V i (setV v j x) w)
    (hst : ∀ i k v w w', k ≠ i → V i v w → Rel k w w' → V i v w')
    (hstep : ∀ i, i < ops.size → StepP P md ops Q chain ds V R Rel a0 i)
    (hfin : ∀ (v : Nat → Value) (w : World), R chain.length w → (∀ i, i < ops.size → V i v w) → Q .normal (fillR ds v 0 a0) w) :
    ∀ (fuel : Nat) (listed : Array Bool) (p : Nat) (v : Nat → Value) (w : World), listed.size = ops.size → leftR listed ≤ fuel → ClosedR md ops listed → p ≤ chain.length → (∀ k c, chain[k]? = some c → (listed.getD c false = true ↔ k < p)) → R p w → (∀ i, listed.getD i false = true → V i v w) →
      wpAny P md ops Q fuel listed (fillR ds v 0 a0) w := by
  have hcs : ∀ k c, chain[k]? = some c → c < ops.size := fun k c hk => by
    have h1 := List.all_eq_true.1 ho k (List.mem_range.2 (List.getElem?_eq_some_iff.1 hk).1)
    simp only [hk, Bool.and_eq_true, decide_eq_true_eq] at h1
    exact h1.1
  have hco : ∀ k c j d, chain[k]? = some c → j < k → chain[j]? = some d → (ancR md ops ops.size c).contains d = true := fun k c j d hk hj hd => by
    have h1 := List.all_eq_true.1 ho k (List.mem_range.2 (List.getElem?_eq_some_iff.1 hk).1)
    simp only [hk, Bool.and_eq_true, decide_eq_true_eq] at h1
    have h2 := List.all_eq_true.1 h1.2 j (List.mem_range.2 hj)
    rw [hd] at h2
    exact h2
  have hend : ∀ (listed : Array Bool) (p : Nat), p ≤ chain.length → (∀ k c, chain[k]? = some c → (listed.getD c false = true ↔ k < p)) → (∀ i, i < ops.size → listed.getD i false = true) → p = chain.length := by
    intro listed p hp hk hall
    rcases Nat.lt_or_ge p chain.length with h | h
    · obtain ⟨c, hc⟩ : ∃ c, chain[p]? = some c := ⟨_, List.getElem?_eq_getElem h⟩
      have := (hk p c hc).1 (hall c (hcs p c hc))
      omega
    · omega
  intro fuel
  induction fuel with
  | zero =>
    intro listed p v w hs hf hcl hp hk hR hV
    have hall : ∀ i, i < ops.size → listed.getD i false = true := by
      intro i hi
      cases hb : listed.getD i false with
      | true => rfl
      | false =>
        have h' : listed.getD i true = false := by simpa [hs, hi] using hb
        have := leftR_set h'
        omega
    have hpe := hend listed p hp hk hall
    subst hpe
    refine ⟨?_, hfin v w hR (fun i hi => hV i (hall i hi))⟩
    cases hr : Region.ready md ops listed with
    | nil => rfl
    | cons i rs =>
      have hm : i ∈ Region.ready md ops listed := by rw [hr]; simp
      obtain ⟨h0, o, ho, _⟩ := mem_ready.1 hm
      have hi := (Array.getElem?_eq_some_iff.1 ho).1
      have := hall i hi
      simp [hs, hi] at this h0
      rw [this] at h0
      cases h0
  | succ fuel ih =>
    intro listed p v w hs hf hcl hp hk hR hV
    refine ⟨fun hr => ?_, fun i hi => ?_⟩
    · have hall := all_listedA hl hs hr
      have hpe := hend listed p hp hk hall
      subst hpe
      exact hfin v w hR (fun i hi => hV i (hall i hi))
    obtain ⟨h0, o, hoo, hall⟩ := mem_ready.1 hi
    have hil := (Array.getElem?_eq_some_iff.1 hoo).1
    have h0' : listed.getD i false = false := by
      have : i < listed.size := by omega
      simpa [this] using h0
    have hall' : ∀ o', ops[i]? = some o' → ∀ e ∈ o'.after, Region.binds md e = true → listed.getD e.on false = true := fun o' ho' => by
      rw [hoo] at ho'
      cases ho'
      exact hall
    have hlo : ∀ k c, chain[k]? = some c → (ancR md ops ops.size i).contains c = true → k < p := fun k c hc ha => (hk k c hc).1 (anc_listed hcl ops.size i hall' c (by simpa using ha))
    have hhi : ∀ k c, chain[k]? = some c → (ancR md ops ops.size c).contains i = true → p ≤ k := fun k c hc ha => by
      rcases Nat.lt_or_ge k p with h | h
      · have hlc := (hk k c hc).2 h
        have := anc_listed hcl ops.size c (hcl c hlc) i (by simpa using ha)
        rw [h0'] at this
        cases this
      · exact h
    obtain ⟨q, hq, hq2, hq3⟩ : ∃ q, (chain[p]? = some i ∧ q = p + 1 ∨ i ∉ chain ∧ q = p) ∧ q ≤ chain.length ∧ ∀ k c, chain[k]? = some c → ((listed.setIfInBounds i true).getD c false = true ↔ k < q) := by
      by_cases hic : i ∈ chain
      · obtain ⟨k, hki⟩ := List.getElem?_of_mem hic
        have hkp : ¬ k < p := fun h => by
          have := (hk k i hki).2 h
          rw [h0'] at this
          cases this
        have hpk : p = k := by
          rcases Nat.lt_or_ge p k with h | h
          · obtain ⟨d, hd⟩ : ∃ d, chain[p]? = some d := ⟨_, List.getElem?_eq_getElem (by have := (List.getElem?_eq_some_iff.1 hki).1; omega)⟩
            have := hlo p d hd (hco k i p d hki h hd)
            omega
          · omega
        subst hpk
        refine ⟨p + 1, .inl ⟨hki, rfl⟩, (List.getElem?_eq_some_iff.1 hki).1, fun j c hc => ?_⟩
        by_cases hci : c = i
        · subst hci
          constructor
          · intro _
            rcases Nat.lt_or_ge p j with h | h
            · have := hlo p c hki (hco j c p c hc h hki)
              omega
            · omega
          · intro _
            exact getD_set_own h0
        · rw [getD_set_ne false (Ne.symm hci)]
          rw [hk j c hc]
          constructor
          · intro h; omega
          · intro h
            rcases Nat.lt_or_ge j p with h' | h'
            · exact h'
            · have : j = p := by omega
              subst this
              rw [hki] at hc
              cases hc
              exact absurd rfl hci
      · refine ⟨p, .inr ⟨hic, rfl⟩, hp, fun j c hc => ?_⟩
        have hci : c ≠ i := fun e => hic (e ▸ List.mem_of_getElem? hc)
        rw [getD_set_ne false (Ne.symm hci)]
        exact hk j c hc
    have hd : ds[i]? = some o.dst := by
      rw [← hds, List.getElem?_map]
      have : ops.toList[i]? = some o := by simpa using hoo
      rw [this]
      rfl
    refine wpOp_step hoo fun K hK => hstep i hil o hoo p q hq hhi hlo v w hR (fun e he hb => hV e.on (hall e he hb)) K ?_
    intro x w' hR' hrel hV'
    refine hK _ _ ?_
    rw [put_fill ds hap v 0 a0 i o.dst x hd, Nat.zero_add]
    refine ih _ q _ _ (by simpa using hs) (by have := leftR_set h0; omega) (closed_set hcl hoo hall) hq2 hq3 hR' fun j hj => ?_
    by_cases hji : j = i
    · subst hji
      exact hV'
    · have hlj : listed.getD j false = true := by rw [getD_set_ne false (Ne.symm hji)] at hj; exact hj
      exact hloc j v i x w' (hst j i _ _ _ (Ne.symm hji) (hV j hlj) hrel) (Ne.symm hji)
theorem wp_region_chain (chain : List Nat) (ds : List (Option Tmp)) (V : Nat → (Nat → Value) → World → Prop) (R : Nat → World → Prop) (Rel : Nat → World → World → Prop) (n : Nat) {id : Nat} {a0 : Act} {w : World} (hm : P.follows .mixedOrders = true)
    (hn : ops.size = n) (hds : ops.toList.map (·.dst) = ds) (hap : apartR ds = true) (hl : lexA .any ops = true) (ho : ordR .any ops chain = true) (hR : R 0 w.drew)
    (hloc : ∀ i v j x w, V i v w → j ≠ i → V i (setV v j x) w)
    (hst : ∀ i k v w w', k ≠ i → V i v w → Rel k w w' → V i v w')
    (hstep : ∀ i, i < n → StepP P .any ops Q chain ds V R Rel a0 i)
    (hfin : ∀ (v : Nat → Value) (w : World), R chain.length w → (∀ i, i < n → V i v w) → Q .normal (fillR ds v 0 a0) w) : (Code.region id ops true).wp P Q a0 w := by
  subst hn
  refine wp_region_any hm ?_
  have hfill : fillR ds (fun i => match ds[i]? with | some (some t) => a0.tmps.getD t undef | _ => undef) 0 a0 = a0 := by
    refine fill_start a0 ds 0 _ (fun i t ht => ?_)
    simp only [Nat.zero_add, ht]
  have hno : ∀ i, (Array.replicate ops.size false).getD i false = false := fun i => by
    rcases Nat.lt_or_ge i ops.size with h' | h'
    · simp [h']
    · simp [Nat.not_lt.2 h']
  have := wpAny_chain (P := P) (Q := Q) (md := .any) chain ds hds hap hl ho V R Rel a0 hloc hst hstep hfin ops.size (Array.replicate ops.size false) 0 (fun i => match ds[i]? with | some (some t) => a0.tmps.getD t undef | _ => undef) w.drew (by simp) ?_ closed_none (Nat.zero_le _) (fun k c _ => by rw [hno c]; simp) hR ?_
  · rw [hfill] at this
    exact this
  · unfold leftR
    refine Nat.le_trans List.countP_le_length ?_
    simp
  · intro i hi
    rw [hno i] at hi
    cases hi
section
variable {chain : List Nat} {ds : List (Option Tmp)} {V : Nat → (Nat → Value) → World → Prop} {R : Nat → World → Prop} {Rel : Nat → World → World → Prop} {a0 : Act} {i : Nat} {o : Oper}
theorem deps_of (ho : ops[i]? = some o) (deps : List Nat) (hd : waitsR md ops i deps = true) {v : Nat → Value} {w : World} (h : ∀ e ∈ o.after, Region.binds md e = true → V e.on v w) : ∀ j ∈ deps, V j v w := by
  intro j hj
  unfold waitsR at hd
  rw [ho] at hd
  have := List.all_eq_true.1 hd j hj
  obtain ⟨q, hq, he⟩ := Array.any_eq_true.1 this
  simp only [Bool.and_eq_true, beq_iff_eq] at he
  have := h o.after[q] (Array.getElem_mem _) he.1
  rwa [he.2] at this
/-- An operation that yields a value, not of the chain. -/
theorem StepP.val (ho : ops[i]? = some o) (hc : chain.contains i = false) (deps : List Nat) (hd : waitsR md ops i deps = true)
    (h : ∀ (p : Nat), (∀ k c, chain[k]? = some c → (ancR md ops ops.size c).contains i = true → p ≤ k) → (∀ k c, chain[k]? = some c → (ancR md ops ops.size i).contains c = true → k < p) → ∀ (v : Nat → Value) (w : World), R p w → (∀ j ∈ deps, V j v w) → Region.wanted o (yielded ops (fillR ds v 0 a0).tmps) = true ∧ ∃ x w', (execOp (fillR ds v 0 a0).eval o).run P w = .ok (.value x) w' ∧ R p w' ∧ Rel i w w' ∧ V i (setV v i x) w') : StepP P md ops Q chain ds V R Rel a0 i := by
  intro o' ho' p q hq hhi hlo v w hR hdep K hK
  rw [ho] at ho'
  cases ho'
  have hqp : q = p := by
    rcases hq with ⟨h1, _⟩ | ⟨_, h2⟩
    · have := List.mem_of_getElem? h1
      simp at hc
      exact absurd this hc
    · exact h2
  subst hqp
  obtain ⟨hw, x, w', hr, h1, h2, h3⟩ := h q hhi hlo v w hR (deps_of ho deps hd hdep)
  rw [if_pos hw]
  unfold Oper.wp
  rw [hr]
  exact hK.out x w' h1 h2 h3
theorem chain_at {p q k : Nat} (hc : chain[k]? = some i) (hn : chain.Nodup) (hq : chain[p]? = some i ∧ q = p + 1 ∨ i ∉ chain ∧ q = p) : p = k ∧ q = k + 1 := by
  rcases hq with ⟨h1, h2⟩ | ⟨h1, _⟩
  · have := (List.getElem?_inj (List.getElem?_eq_some_iff.1 h1).1 hn).1 (h1.trans hc.symm)
    omega
  · exact absurd (List.mem_of_getElem? hc) h1
/-- .. of the chain. -/
theorem StepP.cval (k : Nat) (ho : ops[i]? = some o) (hc : chain[k]? = some i) (hn : decide chain.Nodup = true) (deps : List Nat) (hd : waitsR md ops i deps = true)
    (h : ∀ (v : Nat → Value) (w : World), R k w → (∀ j ∈ deps, V j v w) → Region.wanted o (yielded ops (fillR ds v 0 a0).tmps) = true ∧ ∃ x w', (execOp (fillR ds v 0 a0).eval o).run P w = .ok (.value x) w' ∧ R (k + 1) w' ∧ Rel i w w' ∧ V i (setV v i x) w') : StepP P md ops Q chain ds V R Rel a0 i := by
  intro o' ho' p q hq hhi hlo v w hR hdep K hK
  rw [ho] at ho'
  cases ho'
  obtain ⟨rfl, rfl⟩ := chain_at hc (of_decide_eq_true hn) hq
  obtain ⟨hw, x, w', hr, h1, h2, h3⟩ := h v w hR (deps_of ho deps hd hdep)
  rw [if_pos hw]
  unfold Oper.wp
  rw [hr]
  exact hK.out x w' h1 h2 h3
/-- A store, of the chain. -/
theorem StepP.cskip (k : Nat) (ho : ops[i]? = some o) (hc : chain[k]? = some i) (hn : decide chain.Nodup = true) (deps : List Nat) (hd : waitsR md ops i deps = true)
    (h : ∀ (v : Nat → Value) (w : World), R k w → (∀ j ∈ deps, V j v w) → Region.wanted o (yielded ops (fillR ds v 0 a0).tmps) = true ∧ ∃ w', (execOp (fillR ds v 0 a0).eval o).run P w = .ok .skip w' ∧ R (k + 1) w' ∧ Rel i w w' ∧ V i (setV v i undef) w') : StepP P md ops Q chain ds V R Rel a0 i := by
  intro o' ho' p q hq hhi hlo v w hR hdep K hK
  rw [ho] at ho'
  cases ho'
  obtain ⟨rfl, rfl⟩ := chain_at hc (of_decide_eq_true hn) hq
  obtain ⟨hw, w', hr, h1, h2, h3⟩ := h v w hR (deps_of ho deps hd hdep)
  rw [if_pos hw]
  unfold Oper.wp
  rw [hr]
  exact hK.out undef w' h1 h2 h3
/-- A call of a Go function, of the chain. -/
theorem StepP.ccall (k : Nat) (ho : ops[i]? = some o) (hc : chain[k]? = some i) (hn : decide chain.Nodup = true) (deps : List Nat) (hd : waitsR md ops i deps = true)
    (h : ∀ (v : Nat → Value) (w : World), R k w → (∀ j ∈ deps, V j v w) → Region.wanted o (yielded ops (fillR ds v 0 a0).tmps) = true ∧ ∃ f args w1, (execOp (fillR ds v 0 a0).eval o).run P w = .ok (.enter f args) w1 ∧
      Calls P f args w1 fun e w' => ∃ x, e = .returned x ∧ R (k + 1) w' ∧ Rel i w w' ∧ V i (setV v i x) w') : StepP P md ops Q chain ds V R Rel a0 i := by
  intro o' ho' p q hq hhi hlo v w hR hdep K hK
  rw [ho] at ho'
  cases ho'
  obtain ⟨rfl, rfl⟩ := chain_at hc (of_decide_eq_true hn) hq
  obtain ⟨hw, f, args, w1, hr, hcl⟩ := h v w hR (deps_of ho deps hd hdep)
  rw [if_pos hw]
  unfold Oper.wp
  rw [hr]
  refine hcl.mono ?_
  rintro e w' ⟨x, rfl, h1, h2, h3⟩
  exact hK.out x w' h1 h2 h3
/-- A call of a Go function, not of the chain. -/
theorem StepP.call (ho : ops[i]? = some o) (hc : chain.contains i = false) (deps : List Nat) (hd : waitsR md ops i deps = true)
    (h : ∀ (p : Nat), (∀ k c, chain[k]? = some c → (ancR md ops ops.size c).contains i = true → p ≤ k) → (∀ k c, chain[k]? = some c → (ancR md ops ops.size i).contains c = true → k < p) → ∀ (v : Nat → Value) (w : World), R p w → (∀ j ∈ deps, V j v w) → Region.wanted o (yielded ops (fillR ds v 0 a0).tmps) = true ∧ ∃ f args w1, (execOp (fillR ds v 0 a0).eval o).run P w = .ok (.enter f args) w1 ∧
      Calls P f args w1 fun e w' => ∃ x, e = .returned x ∧ R p w' ∧ Rel i w w' ∧ V i (setV v i x) w') : StepP P md ops Q chain ds V R Rel a0 i := by
  intro o' ho' p q hq hhi hlo v w hR hdep K hK
  rw [ho] at ho'
  cases ho'
  have hqp : q = p := by
    rcases hq with ⟨h1, _⟩ | ⟨_, h2⟩
    · have := List.mem_of_getElem? h1
      simp at hc
      exact absurd this hc
    · exact h2
  subst hqp
  obtain ⟨hw, f, args, w1, hr, hcl⟩ := h q hhi hlo v w hR (deps_of ho deps hd hdep)
  rw [if_pos hw]
  unfold Oper.wp
  rw [hr]
  refine hcl.mono ?_
  rintro e w' ⟨x, rfl, h1, h2, h3⟩
  exact hK.out x w' h1 h2 h3
end
end
section
variable {P : Program} {ρ : Operand → Value} {o : Oper} {w w' : World}
theorem x_store {t : TypeId} {x y : Operand} {a b : Value} (ho : o.op = .store t x y) (hx : ρ x = a) (hy : ρ y = b) (hr : (Instr.storeAt t a b).run P w = .ok () w') : (execOp ρ o).run P w = .ok .skip w' := by
  unfold execOp
  rw [ho]
  simp only [hx, hy, Sem.run_bind, hr]
  rfl
end
end Go.Proofs.YtlpljedacohngaaGreatDoor
end
