/-
  Operations of a drawn region, each by its kind: what it comes to, given what its operands read. Plain theorems on the rules; conditions: those of each.
-/
import Derived.Test.YtammomjnigalbaaRTail
import Derived.Test.YtammomjnigalbaaRAny
import Derived.Deep.MidRow
import Derived.IntWalk
set_option linter.unusedSimpArgs false
set_option linter.unusedVariables false
set_option maxRecDepth 100000
namespace Go.Proofs.Ytammomjnigalbaa

section
variable {P : Program} {ops : Array Oper} {Q : Exit → Act → World → Prop} {md : Region.Mode} {ds : List (Option Tmp)} {V : Nat → (Nat → Value) → World → Prop} {R : World → Prop} {Rel : Nat → World → World → Prop} {a0 : Act} {i : Nat} {o : Oper}

/-- An operation that yields a value. -/
theorem StepL.val (ho : ops[i]? = some o) (deps : List Nat) (hd : waitsR md ops i deps = true)
    (h : ∀ (v : Nat → Value) (w : World), R w → (∀ j ∈ deps, V j v w) → Region.wanted o (yielded ops (fillR ds v 0 a0).tmps) = true ∧ ∃ x w', (execOp (fillR ds v 0 a0).eval o).run P w = .ok (.value x) w' ∧ R w' ∧ Rel i w w' ∧ V i (setV v i x) w') : StepL P md ops Q ds V R Rel a0 i := by
  refine StepL.of ho deps hd fun v w hR hdep K hK => ?_
  obtain ⟨hw, x, w', hr, h1, h2, h3⟩ := h v w hR hdep
  rw [if_pos hw]
  unfold Oper.wp
  rw [hr]
  exact hK.out x w' h1 h2 h3
/-- An operation that isn't wanted. -/
theorem StepL.skip (ho : ops[i]? = some o) (deps : List Nat) (hd : waitsR md ops i deps = true)
    (h : ∀ (v : Nat → Value) (w : World), R w → (∀ j ∈ deps, V j v w) → Region.wanted o (yielded ops (fillR ds v 0 a0).tmps) = false ∧ Rel i w w ∧ V i (setV v i undef) w) : StepL P md ops Q ds V R Rel a0 i := by
  refine StepL.of ho deps hd fun v w hR hdep K hK => ?_
  obtain ⟨hw, h2, h3⟩ := h v w hR hdep
  rw [if_neg (by rw [hw]; decide)]
  exact hK.out undef w hR h2 h3
/-- A call of a Go function. -/
theorem StepL.call (ho : ops[i]? = some o) (deps : List Nat) (hd : waitsR md ops i deps = true)
    (h : ∀ (v : Nat → Value) (w : World), R w → (∀ j ∈ deps, V j v w) → Region.wanted o (yielded ops (fillR ds v 0 a0).tmps) = true ∧ ∃ f args w1, (execOp (fillR ds v 0 a0).eval o).run P w = .ok (.enter f args) w1 ∧
      Calls P f args w1 fun e w' => ∃ x, e = .returned x ∧ R w' ∧ Rel i w w' ∧ V i (setV v i x) w') : StepL P md ops Q ds V R Rel a0 i := by
  refine StepL.of ho deps hd fun v w hR hdep K hK => ?_
  obtain ⟨hw, f, args, w1, hr, hc⟩ := h v w hR hdep
  rw [if_pos hw]
  unfold Oper.wp
  rw [hr]
  refine hc.mono ?_
  rintro e w' ⟨x, rfl, h1, h2, h3⟩
  exact hK.out x w' h1 h2 h3
theorem wanted_yes {v : Nat → Value} {j : Nat} {b : Bool} {t : Tmp} (hg : o.guard = some (j, b)) (ho : (ops[j]?).bind (·.dst) = some t) (hap : apartR ds = true) (hj : ds[j]? = some (some t)) (ht : t < a0.tmps.size) (hv : v j = .bool b) : Region.wanted o (yielded ops (fillR ds v 0 a0).tmps) = true := by
  have h := fill_eval ds v 0 a0 j t hap hj ht
  rw [Nat.zero_add, hv] at h
  have hs := fill_size ds v 0 a0
  have h1 : (fillR ds v 0 a0).tmps[t]? = some (.bool b) := by
    have hlt : t < (fillR ds v 0 a0).tmps.size := by rw [hs]; exact ht
    rw [Array.getElem?_eq_getElem hlt]
    simp [Act.eval, hlt] at h
    rw [h]
  unfold Region.wanted yielded
  rw [hg]
  simp [ho, h1]
theorem wanted_no {v : Nat → Value} {j : Nat} {b c : Bool} {t : Tmp} (hg : o.guard = some (j, b)) (ho : (ops[j]?).bind (·.dst) = some t) (hap : apartR ds = true) (hj : ds[j]? = some (some t)) (ht : t < a0.tmps.size) (hv : v j = .bool c) (hc : (c == b) = false) : Region.wanted o (yielded ops (fillR ds v 0 a0).tmps) = false := by
  have h := fill_eval ds v 0 a0 j t hap hj ht
  rw [Nat.zero_add, hv] at h
  have hs := fill_size ds v 0 a0
  have h1 : (fillR ds v 0 a0).tmps[t]? = some (.bool c) := by
    have hlt : t < (fillR ds v 0 a0).tmps.size := by rw [hs]; exact ht
    rw [Array.getElem?_eq_getElem hlt]
    simp [Act.eval, hlt] at h
    rw [h]
  unfold Region.wanted yielded
  rw [hg]
  simp [ho, h1]
  simpa using hc
/-- .. of an operation that wasn't wanted either. -/
theorem wanted_un {v : Nat → Value} {j : Nat} {b : Bool} {t : Tmp} (hg : o.guard = some (j, b)) (ho : (ops[j]?).bind (·.dst) = some t) (hap : apartR ds = true) (hj : ds[j]? = some (some t)) (ht : t < a0.tmps.size) (hv : v j = undef) : Region.wanted o (yielded ops (fillR ds v 0 a0).tmps) = false := by
  have h := fill_eval ds v 0 a0 j t hap hj ht
  rw [Nat.zero_add, hv] at h
  have hs := fill_size ds v 0 a0
  have h1 : (fillR ds v 0 a0).tmps[t]? = some undef := by
    have hlt : t < (fillR ds v 0 a0).tmps.size := by rw [hs]; exact ht
    rw [Array.getElem?_eq_getElem hlt]
    simp [Act.eval, hlt] at h
    rw [h]
  unfold Region.wanted yielded
  rw [hg]
  simp [ho, h1, undef]
/-- What an operand reads: an operation's slot, .. -/
theorem fill_at {v : Nat → Value} {j : Nat} {t : Tmp} {x : Value} (hap : apartR ds = true) (hj : ds[j]? = some (some t)) (ht : t < a0.tmps.size) (hv : v j = x) : (fillR ds v 0 a0).eval (.tmp t) = x := by
  rw [fill_eval ds v 0 a0 j t hap hj ht, Nat.zero_add, hv]
theorem fill_other : ∀ (ds : List (Option Tmp)) (v : Nat → Value) (k : Nat) (a : Act) (t : Tmp), ds.contains (some t) = false → (fillR ds v k a).eval (.tmp t) = a.eval (.tmp t)
  | [], _, _, _, _, _ => rfl
  | d :: ds, v, k, a, t, h => by
    rw [List.contains_cons, Bool.or_eq_false_iff] at h
    unfold fillR
    rw [fill_other ds v (k + 1) _ t h.2]
    cases d with
    | none => rfl
    | some d =>
      have hne : d ≠ t := fun e => by rw [e] at h; simp at h
      simp [Act.eval, Act.put, Array.getElem?_setIfInBounds_ne hne]
/-- .. or one that no operation writes. -/
theorem fill_off {v : Nat → Value} {t : Tmp} {x : Value} (h : ds.contains (some t) = false) (hx : a0.eval (.tmp t) = x) : (fillR ds v 0 a0).eval (.tmp t) = x := (fill_other ds v 0 a0 t h).trans hx
end

section
variable {P : Program} {ρ : Operand → Value} {o : Oper} {w w' : World}
theorem x_move {x : Operand} {y : Value} (ho : o.op = .move x) (hx : ρ x = y) : (execOp ρ o).run P w = .ok (.value y) w := by
  unfold execOp; rw [ho]; simp only [hx]; rfl
theorem x_assign {x : Operand} {y : Value} (ho : o.op = .assign x) (hx : ρ x = y) : (execOp ρ o).run P w = .ok (.value y) w := by
  unfold execOp; rw [ho]; simp only [hx]; rfl
theorem x_pick_yes {c x y : Operand} {z : Value} (ho : o.op = .pick c x y) (hc : ρ c = .bool true) (hx : ρ x = z) : (execOp ρ o).run P w = .ok (.value z) w := by
  unfold execOp; rw [ho]; simp only [hc, hx]; rfl
theorem x_pick_no {c x y : Operand} {z : Value} (ho : o.op = .pick c x y) (hc : ρ c = .bool false) (hx : ρ y = z) : (execOp ρ o).run P w = .ok (.value z) w := by
  unfold execOp; rw [ho]; simp only [hc, hx]; rfl
theorem x_nil {x : Operand} {a : Addr} (ho : o.op = .nilCheck x) (hx : ρ x = .pointer (some a)) : (execOp ρ o).run P w = .ok (.value (.pointer (some a))) w := by
  unfold execOp; rw [ho]; simp only [hx]; rfl
theorem x_of {s : Sem Value} {z : Value} (ho : execOp ρ o = (do pure (.value (← s)))) (hr : s.run P w = .ok z w') : (execOp ρ o).run P w = .ok (.value z) w' := by
  rw [ho, Sem.run_bind, hr]; rfl
theorem x_load {t : TypeId} {x : Operand} {y z : Value} (ho : o.op = .load t x) (hx : ρ x = y) (hr : (Instr.loadAt t y).run P w = .ok z w') : (execOp ρ o).run P w = .ok (.value z) w' :=
  x_of (by unfold execOp; rw [ho]; simp only [hx]) hr
theorem x_field {s f : Nat} {x : Operand} {y z : Value} (ho : o.op = .fieldAddr s x f) (hx : ρ x = y) (hr : (Instr.fieldAt s y f).run P w = .ok z w') : (execOp ρ o).run P w = .ok (.value z) w' :=
  x_of (by unfold execOp; rw [ho]; simp only [hx]) hr
theorem x_index {t : TypeId} {x k : Operand} {y j z : Value} (ho : o.op = .indexAddr t x k) (hx : ρ x = y) (hk : ρ k = j) (hr : (Instr.indexAt t y j).run P w = .ok z w') : (execOp ρ o).run P w = .ok (.value z) w' :=
  x_of (by unfold execOp; rw [ho]; simp only [hx, hk]) hr
theorem x_bin {b : BinOp} {t t' : TypeId} {x k : Operand} {y j z : Value} (ho : o.op = .binOp b t x k t') (hx : ρ x = y) (hk : ρ k = j) (hr : (do eqGuard b t x k y j; binOp b t y j : Sem Value).run P w = .ok z w') : (execOp ρ o).run P w = .ok (.value z) w' :=
  x_of (by unfold execOp; rw [ho]; simp only [hx, hk]) hr
theorem x_un {b : UnOp} {t : TypeId} {x : Operand} {y z : Value} (ho : o.op = .unOp b t x) (hx : ρ x = y) (hr : (Op.unary b y).run P w = .ok z w') : (execOp ρ o).run P w = .ok (.value z) w' :=
  x_of (by unfold execOp; rw [ho]; simp only [hx]) hr
theorem x_extract {x : Operand} {vs : Array Value} {k : Nat} {z : Value} (ho : o.op = .extract x k) (hx : ρ x = .tuple vs) (hz : vs[k]? = some z) : (execOp ρ o).run P w = .ok (.value z) w :=
  x_of (s := Instr.extract (.tuple vs) k) (by unfold execOp; rw [ho]; simp only [hx]) (by unfold Instr.extract; simp only [hz]; rfl)
theorem x_box {t : TypeId} {x : Operand} {y z : Value} (ho : o.op = .box t x) (hx : ρ x = y) (hr : (Instr.box t y).run P w = .ok z w') : (execOp ρ o).run P w = .ok (.value z) w' :=
  x_of (by unfold execOp; rw [ho]; simp only [hx]) hr
theorem x_alloc {t : TypeId} {z : Value} (ho : o.op = .alloc t) (hr : (Instr.alloc t true (.tuple #[])).run P w = .ok z w') : (execOp ρ o).run P w = .ok (.value z) w' :=
  x_of (by unfold execOp; rw [ho]) hr
theorem x_build {t : TypeId} {ps : Array (Nat × Operand)} {qs : Array (Nat × Value)} {z : Value} (ho : o.op = .build t ps) (hx : ps.map (fun (i, x) => (i, ρ x)) = qs) (hr : (Instr.build t qs).run P w = .ok z w') : (execOp ρ o).run P w = .ok (.value z) w' :=
  x_of (by unfold execOp; rw [ho]; simp only [hx]) hr
theorem x_slice {t : TypeId} {n : Nat} {ps : Array (Nat × Operand)} {qs : Array (Nat × Value)} {z : Value} (ho : o.op = .buildSlice t n ps) (hx : ps.map (fun (i, x) => (i, ρ x)) = qs) (hr : (Instr.buildSlice t n qs).run P w = .ok z w') : (execOp ρ o).run P w = .ok (.value z) w' :=
  x_of (by unfold execOp; rw [ho]; simp only [hx]) hr
theorem x_conv {s t : TypeId} {x : Operand} {y z : Value} (ho : o.op = .convert s t x) (hx : ρ x = y) (hr : (convert s t y).run P w = .ok z w') : (execOp ρ o).run P w = .ok (.value z) w' :=
  x_of (by unfold execOp; rw [ho]; simp only [hx]) hr
theorem x_call {c : Call} {f : FuncId} {av : Array Value} (ho : o.op = .call c) (hf : c.callee = .value (.func f)) (hx : c.args.map ρ = av) (hr : (callFunc f (av ++ #[])).run P w = .ok (.enter f av) w) (hv : ρ (.func f) = .func (.func f) #[] #[]) : (execOp ρ o).run P w = .ok (.enter f av) w := by
  unfold execOp resolve
  rw [ho]
  simp only [hf, hx, hv]
  have : Deferred.ofValue (.func (.func f) #[] #[]) av = pure { target := .fn (.func f) #[], args := av } := by
    unfold Deferred.ofValue
    simp
  rw [this]
  exact hr
/-- A field's place within a struct. -/
def fieldOf (P : Program) (s f : Nat) : Option Nat := match P.underlying s with
  | some (.struct fs) => match fs[f]? with
    | some x => match P.info? x.type with
      | some i => if i.size = 0 then none else some x.offset
      | none => none
    | none => none
  | _ => none
theorem addr_add (b o n : Nat) : Addr.add ⟨b, o, none⟩ n = ⟨b, o + n, none⟩ := by
  unfold Addr.add
  split
  · rename_i h; subst h; rfl
  · rfl
theorem r_field {s f b x off : Nat} (hf : fieldOf P s f = some off) : (Instr.fieldAt s (.pointer (some ⟨b, x, none⟩)) f).run P w = .ok (.pointer (some ⟨b, x + off, none⟩)) w := by
  unfold fieldOf at hf
  split at hf
  · rename_i fs hu
    split at hf
    · rename_i y hy
      split at hf
      · rename_i i hi
        split at hf
        · cases hf
        · rename_i hz
          cases hf
          unfold Instr.fieldAt
          rw [Sem.run_bind, run_underlying hu w]
          simp only [Result.andThen_ok, hy, Instr.sureAddr, Sem.run_bind, Sem.run_pure]
          unfold fieldPlace
          simp only [sizeOf, typeInfo, Sem.run_bind, run_program, Result.andThen_ok, hi, Sem.run_pure, Sem.run_ite, if_neg hz, addr_add]
      · cases hf
    · cases hf
  · cases hf
/-- A type whose values have one cell. -/
def plainT (P : Program) (t : TypeId) : Bool := match P.underlying t with
  | some d => !d.isRow
  | none => false
theorem r_load {t : TypeId} {a : Addr} {z : Value} (hp : plainT P t = true) (hc : w.cell? a = some z) : (Instr.loadAt t (.pointer (some a))).run P w = .ok z w := by
  obtain ⟨d, hu, hd⟩ : ∃ d, P.underlying t = some d ∧ d.isRow = false := by
    unfold plainT at hp
    split at hp
    · rename_i d hu
      exact ⟨d, hu, by simpa using hp⟩
    · cases hp
  have hagg : (isAgg t).run P w = .ok false w := by
    unfold isAgg
    rw [Sem.run_bind, run_underlying hu w]
    cases d <;> simp_all
  simp only [Instr.loadAt, Instr.sureAddr, Sem.run_bind, Sem.run_pure, Result.andThen_ok, loadVar, hagg, Bool.false_eq_true, if_false, run_load, hc]
/-- A type whose values are so many cells in a row. -/
def rowT (P : Program) (t : TypeId) (n : Nat) : Bool := match P.underlying t, P.info? t with
  | some d, some i => d.isRow && i.size == n
  | _, _ => false
theorem r_loadR {t : TypeId} {b o : Nat} {cs : List Value} (hp : rowT P t cs.length = true) (hc : w.rangeAt b o cs) : (Instr.loadAt t (.pointer (some ⟨b, o, none⟩))).run P w = .ok (.agg cs.toArray) w := by
  obtain ⟨d, i, hu, hi, hd, hs⟩ : ∃ d i, P.underlying t = some d ∧ P.info? t = some i ∧ d.isRow = true ∧ i.size = cs.length := by
    unfold rowT at hp
    split at hp
    · rename_i d i hu hi
      rw [Bool.and_eq_true] at hp
      exact ⟨d, i, hu, hi, hp.1, by simpa using hp.2⟩
    · cases hp
  exact run_loadAt_mid w b o t cs d hc hu hd (by rw [hi]; simp [hs])
theorem r_index {t e : TypeId} {g x n c : Nat} {i : Int} {size off : Nat} {ik : IntKind} (hu : P.underlying t = some (.slice e)) (hs : (P.info? e).map (·.size) = some size) (h0 : 0 ≤ i) (h1 : i < n) (ho : x + i.toNat * size = off) : (Instr.indexAt t (.slice (some ⟨g, x, none⟩) n c) (.int ik i)).run P w = .ok (.pointer (some ⟨g, off, none⟩)) w := by
  cases hq : P.info? e with
  | none => simp [hq] at hs
  | some inf =>
    have hsz : inf.size = size := by simpa [hq] using hs
    unfold Instr.indexAt
    simp only [asIntOf, Sem.run_bind, Sem.run_pure, Result.andThen_ok, run_underlying hu w]
    simp [h0, h1, sizeOf, typeInfo, hq, hsz, addr_add, ho]
end
section
variable {P : Program} {ρ : Operand → Value} {o : Oper} {w : World} {t : TypeId} {x k : Operand} {ik : IntKind} {a b : Int}
theorem r_lss {z : Bool} (h : decide (a < b) = z) : (do eqGuard .lss t x k (.int ik a) (.int ik b); binOp .lss t (.int ik a) (.int ik b) : Sem Value).run P w = .ok (.bool z) w := by
  subst h; simp [eqGuard, binOp, Op.intCmp]
theorem r_leq {z : Bool} (h : decide (a ≤ b) = z) : (do eqGuard .leq t x k (.int ik a) (.int ik b); binOp .leq t (.int ik a) (.int ik b) : Sem Value).run P w = .ok (.bool z) w := by
  subst h; simp [eqGuard, binOp, Op.intCmp]
theorem r_gtr {z : Bool} (h : decide (b < a) = z) : (do eqGuard .gtr t x k (.int ik a) (.int ik b); binOp .gtr t (.int ik a) (.int ik b) : Sem Value).run P w = .ok (.bool z) w := by
  subst h; simp [eqGuard, binOp, Op.intCmp]
theorem r_geq {z : Bool} (h : decide (b ≤ a) = z) : (do eqGuard .geq t x k (.int ik a) (.int ik b); binOp .geq t (.int ik a) (.int ik b) : Sem Value).run P w = .ok (.bool z) w := by
  subst h; simp [eqGuard, binOp, Op.intCmp]
theorem r_eql {z : Bool} (h : decide (a = b) = z) : (do eqGuard .eql t x k (.int ik a) (.int ik b); binOp .eql t (.int ik a) (.int ik b) : Sem Value).run P w = .ok (.bool z) w := by
  subst h; simp [eqGuard, binOp, Op.intCmp]; exact (Bool.eq_iff_iff.2 (by simp))
theorem r_neq {z : Bool} (h : decide (a = b) = !z) : (do eqGuard .neq t x k (.int ik a) (.int ik b); binOp .neq t (.int ik a) (.int ik b) : Sem Value).run P w = .ok (.bool z) w := by
  have e : (a == b) = !z := by rw [← h]; exact (Bool.eq_iff_iff.2 (by simp))
  simp [eqGuard, binOp, Op.intCmp, bne, e]
theorem r_add {a b c : Int} (h : a + b = c) (h0 : -9223372036854775808 ≤ c) (h1 : c ≤ 9223372036854775807) : (do eqGuard .add t x k (.int .i64 a) (.int .i64 b); binOp .add t (.int .i64 a) (.int .i64 b) : Sem Value).run P w = .ok (.int .i64 c) w := by
  have := IntWalk.i64_in c ⟨h0, h1⟩
  simp [eqGuard, binOp, Op.intArith, h, this]
theorem r_sub {a b c : Int} (h : a - b = c) (h0 : -9223372036854775808 ≤ c) (h1 : c ≤ 9223372036854775807) : (do eqGuard .sub t x k (.int .i64 a) (.int .i64 b); binOp .sub t (.int .i64 a) (.int .i64 b) : Sem Value).run P w = .ok (.int .i64 c) w := by
  have := IntWalk.i64_in c ⟨h0, h1⟩
  simp [eqGuard, binOp, Op.intArith, h, this]
theorem r_mul {a b c : Int} (h : a * b = c) (h0 : -9223372036854775808 ≤ c) (h1 : c ≤ 9223372036854775807) : (do eqGuard .mul t x k (.int .i64 a) (.int .i64 b); binOp .mul t (.int .i64 a) (.int .i64 b) : Sem Value).run P w = .ok (.int .i64 c) w := by
  have := IntWalk.i64_in c ⟨h0, h1⟩
  simp [eqGuard, binOp, Op.intArith, h, this]
theorem r_not {b z : Bool} (h : (!b) = z) : (Op.unary .not (.bool b)).run P w = .ok (.bool z) w := by
  subst h; rfl
def sliceT (P : Program) (t : TypeId) : Bool := match P.underlying t with
  | some (.slice _) => true
  | _ => false
theorem x_len {c : Call} {y : Operand} {p : Option Addr} {n q : Nat} (ho : o.op = .call c) (hc : c.callee = .builtin .len) (ha : c.args = #[y]) (ht : c.argTypes = #[t]) (hp : sliceT P t = true) (hy : ρ y = .slice p n q) : (execOp ρ o).run P w = .ok (.value (.int .i64 n)) w := by
  obtain ⟨e, hu⟩ : ∃ e, P.underlying t = some (.slice e) := by
    unfold sliceT at hp
    split at hp
    · rename_i e hu
      exact ⟨e, hu⟩
    · cases hp
  unfold execOp resolve
  rw [ho]
  simp only [hc, ha, ht, Sem.run_bind, Sem.run_pure, Result.andThen_ok]
  simp [invoke, builtin, Builtin.len_, hy, run_underlying hu w, goInt]
end
/-- A cell that lies somewhere else in the same words. -/
theorem range_five {w : World} {g o : Nat} {x0 x1 x2 x3 x4 : Value} (h0 : w.cell? ⟨g, o, none⟩ = some x0) (h1 : w.cell? ⟨g, o + 1, none⟩ = some x1) (h2 : w.cell? ⟨g, o + 2, none⟩ = some x2) (h3 : w.cell? ⟨g, o + 3, none⟩ = some x3) (h4 : w.cell? ⟨g, o + 4, none⟩ = some x4) : w.rangeAt g o [x0, x1, x2, x3, x4] := by
  intro j v hj
  match j, hj with
  | 0, hj => cases hj; exact h0
  | 1, hj => cases hj; exact h1
  | 2, hj => cases hj; exact h2
  | 3, hj => cases hj; exact h3
  | 4, hj => cases hj; exact h4
  | j + 5, hj => simp at hj
theorem range_four {w : World} {g o : Nat} {x0 x1 x2 x3 : Value} (h0 : w.cell? ⟨g, o, none⟩ = some x0) (h1 : w.cell? ⟨g, o + 1, none⟩ = some x1) (h2 : w.cell? ⟨g, o + 2, none⟩ = some x2) (h3 : w.cell? ⟨g, o + 3, none⟩ = some x3) : w.rangeAt g o [x0, x1, x2, x3] := by
  intro j v hj
  match j, hj with
  | 0, hj => cases hj; exact h0
  | 1, hj => cases hj; exact h1
  | 2, hj => cases hj; exact h2
  | 3, hj => cases hj; exact h3
  | j + 4, hj => simp at hj
end Go.Proofs.Ytammomjnigalbaa
