/-
  Operations of a drawn region, each by its kind: what it comes to, given what its operands read. Plain theorems on the rules; conditions: those of each.
-/
import Derived.Test.YtkmkblhmjeeaeaaGreatDoorM18
import Derived.Test.YtkmkblhmjeeaeaaGreatDoorM4
import Derived.Deep.MidRow
import Derived.IntWalk
import Derived.Test.YtkmkblhmjeeaeaaGreatDoorM19
import Derived.Test.YtkmkblhmjeeaeaaGreatDoorM17
import Derived.Test.YtkmkblhmjeeaeaaGreatDoorM10
import Derived.Test.YtkmkblhmjeeaeaaGreatDoorM5
section
set_option linter.unusedSimpArgs false
set_option linter.unusedVariables false
set_option maxRecDepth 100000
namespace Go.Proofs.YtkmkblhmjeeaeaaGreatDoor

section
variable {P : Program} {ops : Array Oper} {Q : Exit → Act → World → Prop} {md : Region.Mode} {ds : List (Option Tmp)} {V : Nat → (Nat → Value) → World → Prop} {R : World → Prop} {Rel : Nat → World → World → Prop} {a0 : Act} {i : Nat} {o : Oper}

/-- An operation that yields a value. -/
theorem StepL.val (ho : ops[i]? = some o) (deps : List Nat) (hd : waitsR md ops i deps = true)
    (h : ∀ (v : Nat → Value) (w : World), R w → (∀ j ∈ deps, V j v w) → Region.wanted o (yielded ops (fillR ds v 0 a0).tmps) = true ∧ ∃ x w', (execOp (fillR ds v 0 a0).eval o).run P w = .ok (.value x) w' ∧ R w' ∧ Rel i w w' ∧ V i (setV v i x) w') : StepL P md ops Q ds V R Rel a0 i := by
  refine StepL.of ho deps hd fun v w hR hdep K hK => ?_
  obtain ⟨hw, x, w', hr, h1, h2, h3⟩ := h v w hR hdep
  rw [if_pos hw]
  unfold Oper.wp
  rw [hr]
  exact hK.out x w' h1 h2 h3
/-- An operation that isn't wanted. -/
theorem StepL.skip (ho : ops[i]? = some o) (deps : List Nat) (hd : waitsR md ops i deps = true)
    (h : ∀ (v : Nat → Value) (w : World), R w → (∀ j ∈ deps, V j v w) → Region.wanted o (yielded ops (fillR ds v 0 a0).tmps) = false ∧ Rel i w w ∧ V i (setV v i undef) w) : StepL P md ops Q ds V R Rel a0 i := by
  refine StepL.of ho deps hd fun v w hR hdep K hK => ?_
  obtain ⟨hw, h2, h3⟩ := h v w hR hdep
  rw [if_neg (by rw [hw]; decide)]
  exact hK.out undef w hR h2 h3
/-- A call of a Go function. -/
theorem StepL.call (ho : ops[i]? = some o) (deps : List Nat) (hd : waitsR md ops i deps = true)
    (h : ∀ (v : Nat → Value) (w : World), R w → (∀ j ∈ deps, V j v w) → Region.wanted o (yielded ops (fillR ds v 0 a0).tmps) = true ∧ ∃ f args w1, (execOp (fillR ds v 0 a0).eval o).run P w = .ok (.enter f args) w1 ∧
      Calls P f args w1 fun e w' => ∃ x, e = .returned x ∧ R w' ∧ Rel i w w' ∧ V i (setV v i x) w') : StepL P md ops Q ds V R Rel a0 i := by
  refine StepL.of ho deps hd fun v w hR hdep K hK => ?_
  obtain ⟨hw, f, args, w1, hr, hc⟩ := h v w hR hdep
  rw [if_pos hw]
  unfold Oper.wp
  rw [hr]
  refine hc.mono ?_
  rintro e w' ⟨x, rfl, h1, h2, h3⟩
  exact hK.out x w' h1 h2 h3
theorem wanted_yes {v : Nat → Value} {j : Nat} {b : Bool} {t : Tmp} (hg : o.guard = some (j, b)) (ho : (ops[j]?).bind (·.dst) = some t) (hap : apartR ds = true) (hj : ds[j]? = some (some t)) (ht : t < a0.tmps.size) (hv : v j = .bool b) : Region.wanted o (yielded ops (fillR ds v 0 a0).tmps) = true := by
  have h := fill_eval ds v 0 a0 j t hap hj ht
  rw [Nat.zero_add, hv] at h
  have hs := fill_size ds v 0 a0
  have h1 : (fillR ds v 0 a0).tmps[t]? = some (.bool b) := by
    have hlt : t < (fillR ds v 0 a0).tmps.size := by rw [hs]; exact ht
    rw [Array.getElem?_eq_getElem hlt]
    simp [Act.eval, hlt] at h
    rw [h]
  unfold Region.wanted yielded
  rw [hg]
  simp [ho, h1]
theorem wanted_no {v : Nat → Value} {j : Nat} {b c : Bool} {t : Tmp} (hg : o.guard = some (j, b)) (ho : (ops[j]?).bind (·.dst) = some t) (hap : apartR ds = true) (hj : ds[j]? = some (some t)) (ht : t < a0.tmps.size) (hv : v j = .bool c) (hc : (c == b) = false) : Region.wanted o (yielded ops (fillR ds v 0 a0).tmps) = false := by
  have h := fill_eval ds v 0 a0 j t hap hj ht
  rw [Nat.zero_add, hv] at h
  have hs := fill_size ds v 0 a0
  have h1 : (fillR ds v 0 a0).tmps[t]? = some (.bool c) := by
    have hlt : t < (fillR ds v 0 a0).tmps.size := by rw [hs]; exact ht
    rw [Array.getElem?_eq_getElem hlt]
    simp [Act.eval, hlt] at h
    rw [h]
  unfold Region.wanted yielded
  rw [hg]
  simp [ho, h1]
  simpa using hc
/-- .. of an operation that wasn't wanted either. -/
theorem wanted_un {v : Nat → Value} {j : Nat} {b : Bool} {t : Tmp} (hg : o.guard = some (j, b)) (ho : (ops[j]?).bind (·.dst) = some t) (hap : apartR ds = true) (hj : ds[j]? = some (some t)) (ht : t < a0.tmps.size) (hv : v j = undef) : Region.wanted o (yielded ops (fillR ds v 0 a0).tmps) = false := by
  have h := fill_eval ds v 0 a0 j t hap hj ht
  rw [Nat.zero_add, hv] at h
  have hs := fill_size ds v 0 a0
  have h1 : (fillR ds v 0 a0).tmps[t]? = some undef := by
    have hlt : t < (fillR ds v 0 a0).tmps.size := by rw [hs]; exact ht
    rw [Array.getElem?_eq_getElem hlt]
    simp [Act.eval, hlt] at h
    rw [h]
  unfold Region.wanted yielded
  rw [hg]
  simp [ho, h1, undef]
/-- What an operand reads: an operation's slot, .. -/
theorem fill_at {v : Nat → Value} {j : Nat} {t : Tmp} {x : Value} (hap : apartR ds = true) (hj : ds[j]? = some (some t)) (ht : t < a0.tmps.size) (hv : v j = x) : (fillR ds v 0 a0).eval (.tmp t) = x := by
  rw [fill_eval ds v 0 a0 j t hap hj ht, Nat.zero_add, hv]
theorem fill_other : ∀ (ds : List (Option Tmp)) (v : Nat → Value) (k : Nat) (a : Act) (t : Tmp), ds.contains (some t) = false → (fillR ds v k a).eval (.tmp t) = a.eval (.tmp t)
  | [], _, _, _, _, _ => rfl
  | d :: ds, v, k, a, t, h => by
    rw [List.contains_cons, Bool.or_eq_false_iff] at h
    unfold fillR
    rw [fill_other ds v (k + 1) _ t h.2]
    cases d with
    | none => rfl
    | some d =>
      have hne : d ≠ t := fun e => by rw [e] at h; simp at h
      simp [Act.eval, Act.put, Array.getElem?_setIfInBounds_ne hne]
/-- .. or one that no operation writes. -/
theorem fill_off {v : Nat → Value} {t : Tmp} {x : Value} (h : ds.contains (some t) = false) (hx : a0.eval (.tmp t) = x) : (fillR ds v 0 a0).eval (.tmp t) = x := (fill_other ds v 0 a0 t h).trans hx
end

section
variable {P : Program} {ρ : Operand → Value} {o : Oper} {w w' : World}
theorem x_move {x : Operand} {y : Value} (ho : o.op = .move x) (hx : ρ x = y) : (execOp ρ o).run P w = .ok (.value y) w := by
  unfold execOp; rw [ho]; simp only [hx]; rfl
theorem x_assign {x : Operand} {y : Value} (ho : o.op = .assign x) (hx : ρ x = y) : (execOp ρ o).run P w = .ok (.value y) w := by
  unfold execOp; rw [ho]; simp only [hx]; rfl
theorem x_pick_yes {c x y : Operand} {z : Value} (ho : o.op = .pick c x y) (hc : ρ c = .bool true) (hx : ρ x = z) : (execOp ρ o).run P w = .ok (.value z) w := by
  unfold execOp; rw [ho]; simp only [hc, hx]; rfl
theorem x_pick_no {c x y : Operand} {z : Value} (ho : o.op = .pick c x y) (hc : ρ c = .bool false) (hx : ρ y = z) : (execOp ρ o).run P w = .ok (.value z) w := by
  unfold execOp; rw [ho]; simp only [hc, hx]; rfl
theorem x_nil {x : Operand} {a : Addr} (ho : o.op = .nilCheck x) (hx : ρ x = .pointer (some a)) : (execOp ρ o).run P w = .ok (.value (.pointer (some a))) w := by
  unfold execOp; rw [ho]; simp only [hx]; rfl
theorem x_of {s : Sem Value} {z : Value} (ho : execOp ρ o = (do pure (.value (← s)))) (hr : s.run P w = .ok z w') : (execOp ρ o).run P w = .ok (.value z) w' := by
  rw [ho, Sem.run_bind, hr]; rfl
theorem x_load {t : TypeId} {x : Operand} {y z : Value} (ho : o.op = .load t x) (hx : ρ x = y) (hr : (Instr.loadAt t y).run P w = .ok z w') : (execOp ρ o).run P w = .ok (.value z) w' :=
  x_of (by unfold execOp; rw [ho]; simp only [hx]) hr
theorem x_field {s f : Nat} {x : Operand} {y z : Value} (ho : o.op = .fieldAddr s x f) (hx : ρ x = y) (hr : (Instr.fieldAt s y f).run P w = .ok z w') : (execOp ρ o).run P w = .ok (.value z) w' :=
  x_of (by unfold execOp; rw [ho]; simp only [hx]) hr
theorem x_index {t : TypeId} {x k : Operand} {y j z : Value} (ho : o.op = .indexAddr t x k) (hx : ρ x = y) (hk : ρ k = j) (hr : (Instr.indexAt t y j).run P w = .ok z w') : (execOp ρ o).run P w = .ok (.value z) w' :=
  x_of (by unfold execOp; rw [ho]; simp only [hx, hk]) hr
theorem x_bin {b : BinOp} {t t' : TypeId} {x k : Operand} {y j z : Value} (ho : o.op = .binOp b t x k t') (hx : ρ x = y) (hk : ρ k = j) (hr : (do eqGuard b t x k y j; binOp b t y j : Sem Value).run P w = .ok z w') : (execOp ρ o).run P w = .ok (.value z) w' :=
  x_of (by unfold execOp; rw [ho]; simp only [hx, hk]) hr
theorem x_un {b : UnOp} {t : TypeId} {x : Operand} {y z : Value} (ho : o.op = .unOp b t x) (hx : ρ x = y) (hr : (Op.unary b y).run P w = .ok z w') : (execOp ρ o).run P w = .ok (.value z) w' :=
  x_of (by unfold execOp; rw [ho]; simp only [hx]) hr
theorem x_extract {x : Operand} {vs : Array Value} {k : Nat} {z : Value} (ho : o.op = .extract x k) (hx : ρ x = .tuple vs) (hz : vs[k]? = some z) : (execOp ρ o).run P w = .ok (.value z) w :=
  x_of (s := Instr.extract (.tuple vs) k) (by unfold execOp; rw [ho]; simp only [hx]) (by unfold Instr.extract; simp only [hz]; rfl)
theorem x_box {t : TypeId} {x : Operand} {y z : Value} (ho : o.op = .box t x) (hx : ρ x = y) (hr : (Instr.box t y).run P w = .ok z w') : (execOp ρ o).run P w = .ok (.value z) w' :=
  x_of (by unfold execOp; rw [ho]; simp only [hx]) hr
theorem x_alloc {t : TypeId} {z : Value} (ho : o.op = .alloc t) (hr : (Instr.alloc t true (.tuple #[])).run P w = .ok z w') : (execOp ρ o).run P w = .ok (.value z) w' :=
  x_of (by unfold execOp; rw [ho]) hr
theorem x_build {t : TypeId} {ps : Array (Nat × Operand)} {qs : Array (Nat × Value)} {z : Value} (ho : o.op = .build t ps) (hx : ps.map (fun (i, x) => (i, ρ x)) = qs) (hr : (Instr.build t qs).run P w = .ok z w') : (execOp ρ o).run P w = .ok (.value z) w' :=
  x_of (by unfold execOp; rw [ho]; simp only [hx]) hr
theorem x_slice {t : TypeId} {n : Nat} {ps : Array (Nat × Operand)} {qs : Array (Nat × Value)} {z : Value} (ho : o.op = .buildSlice t n ps) (hx : ps.map (fun (i, x) => (i, ρ x)) = qs) (hr : (Instr.buildSlice t n qs).run P w = .ok z w') : (execOp ρ o).run P w = .ok (.value z) w' :=
  x_of (by unfold execOp; rw [ho]; simp only [hx]) hr
theorem x_conv {s t : TypeId} {x : Operand} {y z : Value} (ho : o.op = .convert s t x) (hx : ρ x = y) (hr : (convert s t y).run P w = .ok z w') : (execOp ρ o).run P w = .ok (.value z) w' :=
  x_of (by unfold execOp; rw [ho]; simp only [hx]) hr
theorem x_call {c : Call} {f : FuncId} {av : Array Value} (ho : o.op = .call c) (hf : c.callee = .value (.func f)) (hx : c.args.map ρ = av) (hr : (callFunc f (av ++ #[])).run P w = .ok (.enter f av) w) (hv : ρ (.func f) = .func (.func f) #[] #[]) : (execOp ρ o).run P w = .ok (.enter f av) w := by
  unfold execOp resolve
  rw [ho]
  simp only [hf, hx, hv]
  have : Deferred.ofValue (.func (.func f) #[] #[]) av = pure { target := .fn (.func f) #[], args := av } := by
    unfold Deferred.ofValue
    simp
  rw [this]
  exact hr
/-- A field's place within a struct. -/
def fieldOf (P : Program) (s f : Nat) : Option Nat := match P.underlying s with
  | some (.struct fs) => match fs[f]? with
    | some x => match P.info? x.type with
      | some i => if i.size = 0 then none else some x.offset
      | none => none
    | none => none
  | _ => none
theorem addr_add (b o n : Nat) : Addr.add ⟨b, o, none⟩ n = ⟨b, o + n, none⟩ := by
  unfold Addr.add
  split
  · rename_i h; subst h; rfl
  · rfl
theorem r_field {s f b x off : Nat} (hf : fieldOf P s f = some off) : (Instr.fieldAt s (.pointer (some ⟨b, x, none⟩)) f).run P w = .ok (.pointer (some ⟨b, x + off, none⟩)) w := by
  unfold fieldOf at hf
  split at hf
  · rename_i fs hu
    split at hf
    · rename_i y hy
      split at hf
      · rename_i i hi
        split at hf
        · cases hf
        · rename_i hz
          cases hf
          unfold Instr.fieldAt
          rw [Sem.run_bind, run_underlying hu w]
          simp only [Result.andThen_ok, hy, Instr.sureAddr, Sem.run_bind, Sem.run_pure]
          unfold fieldPlace
          simp only [sizeOf, typeInfo, Sem.run_bind, run_program, Result.andThen_ok, hi, Sem.run_pure, Sem.run_ite, if_neg hz, addr_add]
      · cases hf
    · cases hf
  · cases hf
/-- A type whose values have one cell. -/
def plainT (P : Program) (t : TypeId) : Bool := match P.underlying t with
  | some d => !d.isRow
  | none => false
theorem r_load {t : TypeId} {a : Addr} {z : Value} (hp : plainT P t = true) (hc : w.cell? a = some z) : (Instr.loadAt t (.pointer (some a))).run P w = .ok z w := by
  obtain ⟨d, hu, hd⟩ : ∃ d, P.underlying t = some d ∧ d.isRow = false := by
    unfold plainT at hp
    split at hp
    · rename_i d hu
      exact ⟨d, hu, by simpa using hp⟩
    · cases hp
  have hagg : (isAgg t).run P w = .ok false w := by
    unfold isAgg
    rw [Sem.run_bind, run_underlying hu w]
    cases d <;> simp_all
  simp only [Instr.loadAt, Instr.sureAddr, Sem.run_bind, Sem.run_pure, Result.andThen_ok, loadVar, hagg, Bool.false_eq_true, if_false, run_load, hc]
/-- A type whose values are so many cells in a row. -/
def rowT (P : Program) (t : TypeId) (n : Nat) : Bool := match P.underlying t, P.info? t with
  | some d, some i => d.isRow && i.size == n
  | _, _ => false
theorem r_loadR {t : TypeId} {b o : Nat} {cs : List Value} (hp : rowT P t cs.length = true) (hc : w.rangeAt b o cs) : (Instr.loadAt t (.pointer (some ⟨b, o, none⟩))).run P w = .ok (.agg cs.toArray) w := by
  obtain ⟨d, i, hu, hi, hd, hs⟩ : ∃ d i, P.underlying t = some d ∧ P.info? t = some i ∧ d.isRow = true ∧ i.size = cs.length := by
    unfold rowT at hp
    split at hp
    · rename_i d i hu hi
      rw [Bool.and_eq_true] at hp
      exact ⟨d, i, hu, hi, hp.1, by simpa using hp.2⟩
    · cases hp
  exact run_loadAt_mid w b o t cs d hc hu hd (by rw [hi]; simp [hs])
theorem r_index {t e : TypeId} {g x n c : Nat} {i : Int} {size off : Nat} {ik : IntKind} (hu : P.underlying t = some (.slice e)) (hs : (P.info? e).map (·.size) = some size) (h0 : 0 ≤ i) (h1 : i < n) (ho : x + i.toNat * size = off) : (Instr.indexAt t (.slice (some ⟨g, x, none⟩) n c) (.int ik i)).run P w = .ok (.pointer (some ⟨g, off, none⟩)) w := by
  cases hq : P.info? e with
  | none => simp [hq] at hs
  | some inf =>
    have hsz : inf.size = size := by simpa [hq] using hs
    unfold Instr.indexAt
    simp only [asIntOf, Sem.run_bind, Sem.run_pure, Result.andThen_ok, run_underlying hu w]
    simp [h0, h1, sizeOf, typeInfo, hq, hsz, addr_add, ho]
end
section
variable {P : Program} {ρ : Operand → Value} {o : Oper} {w : World} {t : TypeId} {x k : Operand} {ik : IntKind} {a b : Int}
theorem r_lss {z : Bool} (h : decide (a < b) = z) : (do eqGuard .lss t x k (.int ik a) (.int ik b); binOp .lss t (.int ik a) (.int ik b) : Sem Value).run P w = .ok (.bool z) w := by
  subst h; simp [eqGuard, binOp, Op.intCmp]
theorem r_leq {z : Bool} (h : decide (a ≤ b) = z) : (do eqGuard .leq t x k (.int ik a) (.int ik b); binOp .leq t (.int ik a) (.int ik b) : Sem Value).run P w = .ok (.bool z) w := by
  subst h; simp [eqGuard, binOp, Op.intCmp]
theorem r_gtr {z : Bool} (h : decide (b < a) = z) : (do eqGuard .gtr t x k (.int ik a) (.int ik b); binOp .gtr t (.int ik a) (.int ik b) : Sem Value).run P w = .ok (.bool z) w := by
  subst h; simp [eqGuard, binOp, Op.intCmp]
theorem r_geq {z : Bool} (h : decide (b ≤ a) = z) : (do eqGuard .geq t x k (.int ik a) (.int ik b); binOp .geq t (.int ik a) (.int ik b) : Sem Value).run P w = .ok (.bool z) w := by
  subst h; simp [eqGuard, binOp, Op.intCmp]
theorem r_eql {z : Bool} (h : decide (a = b) = z) : (do eqGuard .eql t x k (.int ik a) (.int ik b); binOp .eql t (.int ik a) (.int ik b) : Sem Value).run P w = .ok (.bool z) w := by
  subst h; simp [eqGuard, binOp, Op.intCmp]; exact (Bool.eq_iff_iff.2 (by simp))
theorem r_neq {z : Bool} (h : decide (a = b) = !z) : (do eqGuard .neq t x k (.int ik a) (.int ik b); binOp .neq t (.int ik a) (.int ik b) : Sem Value).run P w = .ok (.bool z) w := by
  have e : (a == b) = !z := by rw [← h]; exact (Bool.eq_iff_iff.2 (by simp))
  simp [eqGuard, binOp, Op.intCmp, bne, e]
theorem r_add {a b c : Int} (h : a + b = c) (h0 : -9223372036854775808 ≤ c) (h1 : c ≤ 9223372036854775807) : (do eqGuard .add t x k (.int .i64 a) (.int .i64 b); binOp .add t (.int .i64 a) (.int .i64 b) : Sem Value).run P w = .ok (.int .i64 c) w := by
  have := IntWalk.i64_in c ⟨h0, h1⟩
  simp [eqGuard, binOp, Op.intArith, h, this]
theorem r_sub {a b c : Int} (h : a - b = c) (h0 : -9223372036854775808 ≤ c) (h1 : c ≤ 9223372036854775807) : (do eqGuard .sub t x k (.int .i64 a) (.int .i64 b); binOp .sub t (.int .i64 a) (.int .i64 b) : Sem Value).run P w = .ok (.int .i64 c) w := by
  have := IntWalk.i64_in c ⟨h0, h1⟩
  simp [eqGuard, binOp, Op.intArith, h, this]
theorem r_mul {a b c : Int} (h : a * b = c) (h0 : -9223372036854775808 ≤ c) (h1 : c ≤ 9223372036854775807) : (do eqGuard .mul t x k (.int .i64 a) (.int .i64 b); binOp .mul t (.int .i64 a) (.int .i64 b) : Sem Value).run P w = .ok (.int .i64 c) w := by
  have := IntWalk.i64_in c ⟨h0, h1⟩
  simp [eqGuard, binOp, Op.intArith, h, this]
theorem r_not {b z : Bool} (h : (!b) = z) : (Op.unary .not (.bool b)).run P w = .ok (.bool z) w := by
  subst h; rfl
def sliceT (P : Program) (t : TypeId) : Bool := match P.underlying t with
  | some (.slice _) => true
  | _ => false
theorem x_len {c : Call} {y : Operand} {p : Option Addr} {n q : Nat} (ho : o.op = .call c) (hc : c.callee = .builtin .len) (ha : c.args = #[y]) (ht : c.argTypes = #[t]) (hp : sliceT P t = true) (hy : ρ y = .slice p n q) : (execOp ρ o).run P w = .ok (.value (.int .i64 n)) w := by
  obtain ⟨e, hu⟩ : ∃ e, P.underlying t = some (.slice e) := by
    unfold sliceT at hp
    split at hp
    · rename_i e hu
      exact ⟨e, hu⟩
    · cases hp
  unfold execOp resolve
  rw [ho]
  simp only [hc, ha, ht, Sem.run_bind, Sem.run_pure, Result.andThen_ok]
  simp [invoke, builtin, Builtin.len_, hy, run_underlying hu w, goInt]
end
/-- A cell that lies somewhere else in the same words. -/
theorem range_five {w : World} {g o : Nat} {x0 x1 x2 x3 x4 : Value} (h0 : w.cell? ⟨g, o, none⟩ = some x0) (h1 : w.cell? ⟨g, o + 1, none⟩ = some x1) (h2 : w.cell? ⟨g, o + 2, none⟩ = some x2) (h3 : w.cell? ⟨g, o + 3, none⟩ = some x3) (h4 : w.cell? ⟨g, o + 4, none⟩ = some x4) : w.rangeAt g o [x0, x1, x2, x3, x4] := by
  intro j v hj
  match j, hj with
  | 0, hj => cases hj; exact h0
  | 1, hj => cases hj; exact h1
  | 2, hj => cases hj; exact h2
  | 3, hj => cases hj; exact h3
  | 4, hj => cases hj; exact h4
  | j + 5, hj => simp at hj
theorem range_four {w : World} {g o : Nat} {x0 x1 x2 x3 : Value} (h0 : w.cell? ⟨g, o, none⟩ = some x0) (h1 : w.cell? ⟨g, o + 1, none⟩ = some x1) (h2 : w.cell? ⟨g, o + 2, none⟩ = some x2) (h3 : w.cell? ⟨g, o + 3, none⟩ = some x3) : w.rangeAt g o [x0, x1, x2, x3] := by
  intro j v hj
  match j, hj with
  | 0, hj => cases hj; exact h0
  | 1, hj => cases hj; exact h1
  | 2, hj => cases hj; exact h2
  | 3, hj => cases hj; exact h3
  | j + 4, hj => simp at hj
end Go.Proofs.YtkmkblhmjeeaeaaGreatDoor
end

/-
  Drawn regions by words: the rules for a region whose operations are told by kind. Plain theorems on the rules; conditions: those of each.
-/

section
set_option linter.unusedSimpArgs false
set_option linter.unusedVariables false
set_option maxRecDepth 100000
namespace Go.Proofs.YtkmkblhmjeeaeaaGreatDoor
open Go.RowKit Go.Maps

def quickB (ds : List (Option Tmp)) (n : Nat) : Bool := apartR ds && ds.all fun d => match d with | some t => decide (t < n) | none => true
/-- No two operations write one slot, and each slot is there. -/
structure QuickR (ds : List (Option Tmp)) (a0 : Act) : Prop where
  ap : apartR ds = true
  lt : ∀ (j : Nat) (t : Tmp), ds[j]? = some (some t) → t < a0.tmps.size
theorem QuickR.of {ds : List (Option Tmp)} {a0 : Act} (h : quickB ds a0.tmps.size = true) : QuickR ds a0 := by
  unfold quickB at h
  rw [Bool.and_eq_true] at h
  refine ⟨h.1, fun j t hj => ?_⟩
  have := List.all_eq_true.1 h.2 (some t) (List.mem_of_getElem? hj)
  simpa using this
section
variable {P : Program} {ops : Array Oper} {Q : Exit → Act → World → Prop} {ds : List (Option Tmp)} {a0 : Act} {o : Oper} {v : Nat → Value} {j : Nat} {t : Tmp} {x : Value}
theorem QuickR.at_ (hq : QuickR ds a0) (hj : ds[j]? = some (some t)) (hv : v j = x) : (fillR ds v 0 a0).eval (.tmp t) = x := fill_at hq.ap hj (hq.lt j t hj) hv
theorem QuickR.yes {b : Bool} (hq : QuickR ds a0) (hg : o.guard = some (j, b)) (ho : (ops[j]?).bind (·.dst) = some t) (hj : ds[j]? = some (some t)) (hv : v j = .bool b) : Region.wanted o (yielded ops (fillR ds v 0 a0).tmps) = true := wanted_yes hg ho hq.ap hj (hq.lt j t hj) hv
theorem QuickR.no {b c : Bool} (hq : QuickR ds a0) (hg : o.guard = some (j, b)) (ho : (ops[j]?).bind (·.dst) = some t) (hj : ds[j]? = some (some t)) (hv : v j = .bool c) (hc : (c == b) = false) : Region.wanted o (yielded ops (fillR ds v 0 a0).tmps) = false := wanted_no hg ho hq.ap hj (hq.lt j t hj) hv hc
theorem QuickR.un {b : Bool} (hq : QuickR ds a0) (hg : o.guard = some (j, b)) (ho : (ops[j]?).bind (·.dst) = some t) (hj : ds[j]? = some (some t)) (hv : v j = undef) : Region.wanted o (yielded ops (fillR ds v 0 a0).tmps) = false := wanted_un hg ho hq.ap hj (hq.lt j t hj) hv
theorem wp_region_quick (ds : List (Option Tmp)) (fs : List (Value → World → Prop)) (n : Nat) {id : Nat} {w : World} (hm : P.follows .mixedOrders = true)
    (hn : ops.size = n) (hds : ops.toList.map (·.dst) = ds) (hq : quickB ds a0.tmps.size = true) (hl : lexA .any ops = true) (hst : ∀ F ∈ fs, StV F)
    (hstep : QuickR ds a0 → ∀ i, i < n → StepL P .any ops Q ds (LV fs) (fun wx => Below w.heap.size w wx) (fun _ a b => Below a.heap.size a b) a0 i)
    (hfin : ∀ (v : Nat → Value) (wx : World), Below w.heap.size w wx → (∀ i, i < n → LV fs i v wx) → Q .normal (fillR ds v 0 a0) wx) : (Code.region id ops true).wp P Q a0 w :=
  wp_region_lookA ds (LV fs) (fun _ => []) (fun wx => Below w.heap.size w wx) (fun _ a b => Below a.heap.size a b) n hm hn hds (QuickR.of hq).ap hl (drew_below w) (fun i v j x w h hj _ => LV.loc i v j x w h hj)
    (fun i hi => by unfold waitsR; subst hn; rw [Array.getElem?_eq_getElem hi]; rfl) (LV.st hst) (hstep (QuickR.of hq)) hfin
end
section
variable {P : Program} {ops : Array Oper} {Q : Exit → Act → World → Prop} {md : Region.Mode}
/-! The same as wp_region_tail, where the last operations may write slots that the others read. -/
theorem wpAny_tailP (ds : List (Option Tmp)) (L : Nat) (hds : (ops.toList.take L).map (·.dst) = ds) (hap : apartR ds = true) (hl : lexR ops = true)
    (V : Nat → (Nat → Value) → World → Prop) (R : World → Prop) (Rel : Nat → World → World → Prop) (a0 : Act) (hL : L < ops.size) (ht : tailR md ops L = true)
    (hloc : ∀ i v j x w, V i v w → j ≠ i → V i (setV v j x) w)
    (hst : ∀ i k v w w', k ≠ i → V i v w → Rel k w w' → V i v w')
    (hstep : ∀ i, i < L → StepL P md ops Q ds V R Rel a0 i)
    (htail : ∀ v w, R w → (∀ i, i < L → V i v w) → wpList P ops Q (ops.toList.drop L) (fillR ds v 0 a0) w) :
    ∀ (fuel : Nat) (listed : Array Bool) (v : Nat → Value) (w : World), listed.size = ops.size → leftR listed ≤ fuel → ClosedR md ops listed → (∀ j, L ≤ j → listed.getD j false = false) → R w → (∀ i, listed.getD i false = true → V i v w) →
      wpAny P md ops Q fuel listed (fillR ds v 0 a0) w := by
  intro fuel
  induction fuel with
  | zero =>
    intro listed v w hs hf hc h2 hR hV
    have h0 : listed.getD L true = false := by rw [getD_tf (by omega)]; exact h2 L (Nat.le_refl _)
    have := leftR_set h0
    omega
  | succ fuel ih =>
    intro listed v w hs hf hc h2 hR hV
    refine ⟨fun hr => ?_, fun i hi => ?_⟩
    · have := all_listed hl hs hr L hL
      rw [h2 L (Nat.le_refl _)] at this
      cases this
    obtain ⟨h0, o, ho, hall⟩ := mem_ready.1 hi
    have hil := (Array.getElem?_eq_some_iff.1 ho).1
    by_cases hiL : i < L
    · have hd : ds[i]? = some o.dst := by
        rw [← hds, List.getElem?_map, List.getElem?_take_of_lt hiL]
        have : ops.toList[i]? = some o := by simpa using ho
        rw [this]
        rfl
      refine wpOp_step ho fun K hK => hstep i hiL o ho v w hR (fun e he hb => hV e.on (hall e he hb)) K ?_
      intro x w' hR' hrel hV'
      refine hK _ _ ?_
      rw [put_fill ds hap v 0 a0 i o.dst x hd, Nat.zero_add]
      refine ih _ _ _ (by simpa using hs) (by have := leftR_set h0; omega) (closed_set hc ho hall) (fun j hj => by rw [getD_set_ne false (by omega)]; exact h2 j hj) hR' fun j hj => ?_
      by_cases hji : j = i
      · subst hji
        exact hV'
      · have hlj : listed.getD j false = true := by rw [getD_set_ne false (Ne.symm hji)] at hj; exact hj
        exact hloc j v i x w' (hst j i _ _ _ (Ne.symm hji) (hV j hlj) hrel) (Ne.symm hji)
    · have hpre := tail_ready ht hc (by omega) ho hall
      have hiL' : i = L := by
        rcases Nat.lt_or_ge L i with h | h
        · have := hpre L h
          rw [h2 L (Nat.le_refl _)] at this
          cases this
        · omega
      subst hiL'
      have hfull : wpAny P md ops Q (fuel + 1) listed (fillR ds v 0 a0) w := by
        have h3 : ops.size - i ≤ fuel + 1 := by
          have : ops.size - i ≤ leftR listed := by
            unfold leftR
            have e : listed.toList = listed.toList.take i ++ listed.toList.drop i := (List.take_append_drop _ _).symm
            rw [e, List.countP_append]
            have hall' : (listed.toList.drop i).countP (fun b => !b) = (listed.toList.drop i).length := by
              rw [List.countP_eq_length]
              intro b hb
              obtain ⟨k, hk, rfl⟩ := List.getElem_of_mem hb
              rw [List.getElem_drop]
              have hk' : i + k < listed.size := by simp at hk; omega
              have := h2 (i + k) (by omega)
              simp [hk'] at this
              simpa using this
            rw [hall']
            simp
            omega
          omega
        exact wpAny_list hl ht (fuel + 1) listed i _ w hs (Nat.le_refl _) (by omega) hpre h2 h3 (htail v w hR fun j hj => hV j (hpre j hj))
      exact hfull.2 i hi
theorem wpAny_tailP0 (ds : List (Option Tmp)) (V : Nat → (Nat → Value) → World → Prop) (R : World → Prop) (Rel : Nat → World → World → Prop) (L m : Nat) {a0 : Act} {w : World}
    (hm : ops.size = m) (hL : L < m) (hds : (ops.toList.take L).map (·.dst) = ds) (hap : apartR ds = true) (hl : lexR ops = true) (ht : tailR md ops L = true) (hR : R w)
    (hloc : ∀ i v j x w, V i v w → j ≠ i → V i (setV v j x) w)
    (hst : ∀ i k v w w', k ≠ i → V i v w → Rel k w w' → V i v w')
    (hstep : ∀ i, i < L → StepL P md ops Q ds V R Rel a0 i)
    (htail : ∀ v w, R w → (∀ i, i < L → V i v w) → wpList P ops Q (ops.toList.drop L) (fillR ds v 0 a0) w) : wpAny P md ops Q ops.size (Array.replicate ops.size false) a0 w := by
  subst hm
  have hfill : fillR ds (fun i => match ds[i]? with | some (some t) => a0.tmps.getD t undef | _ => undef) 0 a0 = a0 := by
    refine fill_start a0 ds 0 _ (fun i t ht => ?_)
    simp only [Nat.zero_add, ht]
  have hno : ∀ i, (Array.replicate ops.size false).getD i false = false := fun i => by
    rcases Nat.lt_or_ge i ops.size with h' | h'
    · simp [h']
    · simp [Nat.not_lt.2 h']
  have := wpAny_tailP (P := P) (Q := Q) (md := md) ds L hds hap hl V R Rel a0 hL ht hloc hst hstep htail ops.size (Array.replicate ops.size false) (fun i => match ds[i]? with | some (some t) => a0.tmps.getD t undef | _ => undef) w (by simp) ?_ (fun i hi => by rw [hno i] at hi; cases hi) (fun j _ => hno j) hR ?_
  · rw [hfill] at this
    exact this
  · unfold leftR
    refine Nat.le_trans List.countP_le_length ?_
    simp
  · intro i hi
    rw [hno i] at hi
    cases hi
theorem wp_region_quickT {a0 : Act} (ds : List (Option Tmp)) (fs : List (Value → World → Prop)) (L n : Nat) {id : Nat} {w : World} (hm : P.follows .mixedOrders = true)
    (hn : ops.size = n) (hL : decide (L < n) = true) (hds : (ops.toList.take L).map (·.dst) = ds) (hq : quickB ds a0.tmps.size = true) (hl : lexR ops = true) (ht : tailR .any ops L = true) (hst : ∀ F ∈ fs, StV F)
    (hstep : QuickR ds a0 → ∀ i, i < L → StepL P .any ops Q ds (LV fs) (fun wx => Below w.heap.size w wx) (fun _ a b => Below a.heap.size a b) a0 i)
    (htail : ∀ (v : Nat → Value) (wx : World), Below w.heap.size w wx → (∀ i, i < L → LV fs i v wx) → wpList P ops Q (ops.toList.drop L) (fillR ds v 0 a0) wx) : (Code.region id ops true).wp P Q a0 w :=
  wp_region_any hm (wpAny_tailP0 ds (LV fs) (fun wx => Below w.heap.size w wx) (fun _ a b => Below a.heap.size a b) L n hn (of_decide_eq_true hL) hds (QuickR.of hq).ap hl ht (drew_below w) (fun i v j x w h hj => LV.loc i v j x w h hj) (LV.st hst) (hstep (QuickR.of hq)) htail)
end
section
variable {ρ : Operand → Value} {x0 x1 x2 x3 : Operand} {y0 y1 y2 y3 : Value} {k0 k1 k2 k3 : Nat}
theorem args_1 (h0 : ρ x0 = y0) : (#[x0] : Array Operand).map ρ = #[y0] := by simp [h0]
theorem args_2 (h0 : ρ x0 = y0) (h1 : ρ x1 = y1) : (#[x0, x1] : Array Operand).map ρ = #[y0, y1] := by simp [h0, h1]
theorem args_3 (h0 : ρ x0 = y0) (h1 : ρ x1 = y1) (h2 : ρ x2 = y2) : (#[x0, x1, x2] : Array Operand).map ρ = #[y0, y1, y2] := by simp [h0, h1, h2]
theorem args_4 (h0 : ρ x0 = y0) (h1 : ρ x1 = y1) (h2 : ρ x2 = y2) (h3 : ρ x3 = y3) : (#[x0, x1, x2, x3] : Array Operand).map ρ = #[y0, y1, y2, y3] := by simp [h0, h1, h2, h3]
theorem pairs_0 : (#[] : Array (Nat × Operand)).map (fun (i, x) => (i, ρ x)) = #[] := by simp
theorem pairs_1 (h0 : ρ x0 = y0) : (#[(k0, x0)] : Array (Nat × Operand)).map (fun (i, x) => (i, ρ x)) = #[(k0, y0)] := by simp [h0]
theorem pairs_2 (h0 : ρ x0 = y0) (h1 : ρ x1 = y1) : (#[(k0, x0), (k1, x1)] : Array (Nat × Operand)).map (fun (i, x) => (i, ρ x)) = #[(k0, y0), (k1, y1)] := by simp [h0, h1]
theorem pairs_3 (h0 : ρ x0 = y0) (h1 : ρ x1 = y1) (h2 : ρ x2 = y2) : (#[(k0, x0), (k1, x1), (k2, x2)] : Array (Nat × Operand)).map (fun (i, x) => (i, ρ x)) = #[(k0, y0), (k1, y1), (k2, y2)] := by simp [h0, h1, h2]
end
end Go.Proofs.YtkmkblhmjeeaeaaGreatDoor
end

/-
  Apply: changes made all at once. Conditions: the log is at rest; the nodes lie in a map; the changes lie in memory of their own.
-/

section
set_option linter.unusedSimpArgs false
set_option linter.unusedVariables false
set_option maxRecDepth 100000
namespace Go.Proofs.YtkmkblhmjeeaeaaGreatDoor
open Go.RowKit Go.Maps

theorem ChIn.mono {A A' : Nat → Prop} {w : World} {x : Cv} {c : Ch} (h : ChIn A w x c) (hA : ∀ g, A g → g < w.heap.size → A' g) : ChIn A' w x c := ⟨h.no, h.k, h.m, h.o, h.g, h.drop, h.data.mono hA⟩
theorem ChsIn.mono {A A' : Nat → Prop} {w : World} {l : List Cv} {lc : List Ch} (h : ChsIn A w l lc) (hA : ∀ g, A g → g < w.heap.size → A' g) : ChsIn A' w l lc := ⟨h.1, fun i x c hx hc => (h.2 i x c hx hc).mono hA⟩
/-- Writes of the call's own, wherever they begin. -/
def owV (b : Nat) (ws : List (Int × List B8)) : Value → World → Prop := fun u w => ∃ b0, b ≤ b0 ∧ WOwn (fun q => b0 ≤ q) b0 w u ws
theorem owV.st (b : Nat) (ws : List (Int × List B8)) : StV (owV b ws) := fun _ _ _ ⟨b0, h1, h2⟩ hb => ⟨b0, h1, h2.below hb⟩

set_option maxRecDepth 100000 in
set_option maxHeartbeats 8000000 in
theorem apply_ok {ks : List B32} {B D L G n j N K : Nat} {S : Nat → List B8} {c : Nat} {A : Nat → Prop} {A2 : Nat → Prop} {t M cm : Nat} {f g : Tab} {w : World} (hT : Tb ks B D L G n j N K S c A t M cm f w) (hc : c < 400000) (hcm : cm ≤ 500) (hA : ∀ q, A q → q < w.heap.size ∧ q ∉ [D, L, G, t]) (htX : t ∉ [D, L, G])
    (htB : B ≤ t) {P : Option Addr} {len cap : Nat} {l : List Cv} {lc : List Ch} (hl : CvIn w P len l) (hlc : ChsIn A2 w l lc) (hb63 : ∀ x ∈ l, -9223372036854775808 ≤ x.no ∧ x.no ≤ 9223372036854775807) (hlen : len ≤ 500) (hchk : chkL l N = 0) (hgood : Good7 N lc) (hbh : tabBehind f N K lc = some g) (hn : nwr lc ≤ j / 2) :
    Calls Tryz.prog 9 #[.pointer (some ⟨t, 0, none⟩), .slice P len cap] w fun e w' => e = .returned (.int .i64 0) ∧
      (∃ S' M', Tb ks B D L G n j N K S' (c + 50) (fun q => A q ∨ w.heap.size ≤ q) t M' (cm + lc.length) g w' ∧ dvj j S' = layS (dvj j S) (writesL N g lc)) ∧ Stp B [D, L, G, t] w w' := by
  have y0 : w.cell? ⟨t, 0, none⟩ = some (.pointer (some ⟨G, 0, none⟩)) := hT.blk.cell 0
  have y1 : w.cell? ⟨t, 1, none⟩ = some (.int .i64 (N : Int)) := hT.blk.cell 1
  have hN1 := hT.geo.N1
  have htl := hT.blk.lt
  have HL := Lib.hid (And.intro hT (And.intro hA (And.intro hl (And.intro hlc (And.intro hgood (And.intro hbh hn))))))
  have HF := Lib.hid (refused_all w G N P len cap l hl hb63 (by omega))
  have hK4 : K ≤ 4096 := by have := hT.geo.nn; have := hT.geo.n1; omega
  clear hT hA hl hlc hgood hbh hn hb63
  go_enter Tryz.func9, Tryz.ntmps9
  go_wp2_with (first
    | (go_at_call 26; refine HF.out.mono ?_; rintro e w1 ⟨rfl, hW⟩; rw [hchk]; have HB := Lib.hid (behind_any (HL.out.1.lg.below hW) HL.out.1.geo (HL.out.1.tab.below hW) HL.out.1.wf (fun q hq => Nat.lt_of_lt_of_le (HL.out.2.1 q hq).1 hW.size) (by omega) (HL.out.1.blk.below hW htl) (HL.out.2.2.1.below hW) (cap := cap) (HL.out.2.2.2.1.below hW) HL.out.2.2.2.2.1 (by omega)); have x0 := cell_below y0 hW; have x1 := cell_below y1 hW; have hs1 := hW.size; have H1 := Lib.hid hW; clear hW HF)
    | (go_at_call 27; refine HB.out.mono ?_; rintro e w2 ⟨hW, hP⟩; rw [HL.out.2.2.2.2.2.1] at hP; obtain ⟨M', rfl, hM', hT2⟩ := hP; have H2 := Lib.hid (And.intro (HL.out.2.2.1.below (below_of H1.out hW)) (And.intro hT2 (behind_wf HL.out.1.wf HL.out.2.2.2.2.1 HL.out.2.2.2.2.2.1))); have HB2 := Lib.hid (And.intro (below_of H1.out hW) hM'); have hs2 := hW.size; have z0 := cell_below x0 hW; have z1 := cell_below x1 hW; clear hW hM' hT2 x0 x1 HB)
    | go_in)
  clear y0 y1
  have y0 := z0
  have y1 := z1
  clear z0 z1
  have hno1 : ∀ (i : Nat) x c, l[i]? = some x → lc[i]? = some c → x.no = c.no := fun i x c h1 h2 => (HL.out.2.2.2.1.2 i x c h1 h2).no
  have hll1 := HL.out.2.2.2.1.1
  have hgd1 := HL.out.2.2.2.2.1.no
  refine wp_hideQ ?_
  intro QQ hQQ
  refine wp_region_tail [some 29, some 30, some 31, some 32, some 33, some 34, some 35, some 36, some 37, some 38, some 39, some 40, some 41, some 8] (LV [isV (.pointer (some ⟨t, 0, none⟩)), isV (.pointer (some ⟨t, 0, none⟩)), isV (.pointer (some ⟨t, 0, none⟩)), isV (.pointer (some ⟨t, 0, none⟩)), isV (.pointer (some ⟨G, 0, none⟩)), isV (.pointer (some ⟨t, 0, none⟩)), isV (.pointer (some ⟨t, 0, none⟩)), isV (.pointer (some ⟨t, 0, none⟩)), isV (lay G N), isV (.slice P len cap), isV (.map (some M')), owV w2.heap.size (writesL N g lc)]) (fun wx => Below w2.heap.size w2 wx) (fun _ a b => Below a.heap.size a b) 12 14 (by kernel_rfl) rfl (by omega) rfl (by kernel_rfl) (by kernel_rfl) (by kernel_rfl) (drew_below w2) LV.loc (LV.st (by simp [isV.st, owV.st])) ?_ ?_
  · intro i' hi'
    match i', hi' with
    | 0, _ =>
      refine StepL.of rfl [] (by decide +kernel) ?_
      intro v wx hR hdp K hK
      clear hdp
      simp only [List.getElem_toArray, List.getElem_cons_zero, List.getElem_cons_succ, fillR, Act.put, List.setIfInBounds_toArray, List.set_cons_zero, List.set_cons_succ] at hK ⊢
      go_simp
      exact hK.out _ _ hR (Below.refl _ _) rfl
    | 1, _ =>
      refine StepL.of rfl [0] (by decide +kernel) ?_
      intro v wx hR hdp K hK
      have h0 : v 0 = _ := hdp 0 (by simp)
      clear hdp
      simp only [List.getElem_toArray, List.getElem_cons_zero, List.getElem_cons_succ, fillR, Act.put, List.setIfInBounds_toArray, List.set_cons_zero, List.set_cons_succ, h0] at hK ⊢
      go_simp
      exact hK.out _ _ hR (Below.refl _ _) rfl
    | 2, _ =>
      refine StepL.of rfl [1] (by decide +kernel) ?_
      intro v wx hR hdp K hK
      have h1 : v 1 = _ := hdp 1 (by simp)
      clear hdp
      simp only [List.getElem_toArray, List.getElem_cons_zero, List.getElem_cons_succ, fillR, Act.put, List.setIfInBounds_toArray, List.set_cons_zero, List.set_cons_succ, h1] at hK ⊢
      go_simp
      exact hK.out _ _ hR (Below.refl _ _) rfl
    | 3, _ =>
      refine StepL.of rfl [2] (by decide +kernel) ?_
      intro v wx hR hdp K hK
      have h2 : v 2 = _ := hdp 2 (by simp)
      clear hdp
      simp only [List.getElem_toArray, List.getElem_cons_zero, List.getElem_cons_succ, fillR, Act.put, List.setIfInBounds_toArray, List.set_cons_zero, List.set_cons_succ, h2] at hK ⊢
      go_simp
      exact hK.out _ _ hR (Below.refl _ _) rfl
    | 4, _ =>
      refine StepL.of rfl [3] (by decide +kernel) ?_
      intro v wx hR hdp K hK
      have h3 : v 3 = _ := hdp 3 (by simp)
      have b0 := cell_below y0 hR
      clear hdp
      simp only [List.getElem_toArray, List.getElem_cons_zero, List.getElem_cons_succ, fillR, Act.put, List.setIfInBounds_toArray, List.set_cons_zero, List.set_cons_succ, h3] at hK ⊢
      go_simp
      exact hK.out _ _ hR (Below.refl _ _) rfl
    | 5, _ =>
      refine StepL.of rfl [] (by decide +kernel) ?_
      intro v wx hR hdp K hK
      clear hdp
      simp only [List.getElem_toArray, List.getElem_cons_zero, List.getElem_cons_succ, fillR, Act.put, List.setIfInBounds_toArray, List.set_cons_zero, List.set_cons_succ] at hK ⊢
      go_simp
      exact hK.out _ _ hR (Below.refl _ _) rfl
    | 6, _ =>
      refine StepL.of rfl [5] (by decide +kernel) ?_
      intro v wx hR hdp K hK
      have h5 : v 5 = _ := hdp 5 (by simp)
      clear hdp
      simp only [List.getElem_toArray, List.getElem_cons_zero, List.getElem_cons_succ, fillR, Act.put, List.setIfInBounds_toArray, List.set_cons_zero, List.set_cons_succ, h5] at hK ⊢
      go_simp
      exact hK.out _ _ hR (Below.refl _ _) rfl
    | 7, _ =>
      refine StepL.of rfl [6] (by decide +kernel) ?_
      intro v wx hR hdp K hK
      have h6 : v 6 = _ := hdp 6 (by simp)
      clear hdp
      simp only [List.getElem_toArray, List.getElem_cons_zero, List.getElem_cons_succ, fillR, Act.put, List.setIfInBounds_toArray, List.set_cons_zero, List.set_cons_succ, h6] at hK ⊢
      go_simp
      exact hK.out _ _ hR (Below.refl _ _) rfl
    | 8, _ =>
      refine StepL.of rfl [7] (by decide +kernel) ?_
      intro v wx hR hdp K hK
      have h7 : v 7 = _ := hdp 7 (by simp)
      have b0 := cell_below y0 hR
      have b1 := cell_below y1 hR
      clear hdp
      simp only [List.getElem_toArray, List.getElem_cons_zero, List.getElem_cons_succ, fillR, Act.put, List.setIfInBounds_toArray, List.set_cons_zero, List.set_cons_succ, h7] at hK ⊢
      go_simp
      exact hK.out _ _ hR (Below.refl _ _) rfl
    | 9, _ =>
      refine StepL.of rfl [] (by decide +kernel) ?_
      intro v wx hR hdp K hK
      clear hdp
      simp only [List.getElem_toArray, List.getElem_cons_zero, List.getElem_cons_succ, fillR, Act.put, List.setIfInBounds_toArray, List.set_cons_zero, List.set_cons_succ] at hK ⊢
      go_simp
      exact hK.out _ _ hR (Below.refl _ _) rfl
    | 10, _ =>
      refine StepL.of rfl [] (by decide +kernel) ?_
      intro v wx hR hdp K hK
      clear hdp
      simp only [List.getElem_toArray, List.getElem_cons_zero, List.getElem_cons_succ, fillR, Act.put, List.setIfInBounds_toArray, List.set_cons_zero, List.set_cons_succ] at hK ⊢
      go_simp
      exact hK.out _ _ hR (Below.refl _ _) rfl
    | 11, _ =>
      refine StepL.of rfl [8, 9, 10] (by decide +kernel) ?_
      intro v wx hR hdp K hK
      have h8 : v 8 = _ := hdp 8 (by simp)
      have h9 : v 9 = _ := hdp 9 (by simp)
      have h10 : v 10 = _ := hdp 10 (by simp)
      have HV := Lib.hid (inwrites_any (G := G) (cap := cap) (H2.out.2.1.below hR) H2.out.2.2 (by omega) hK4 (H2.out.1.below hR) hno1 hll1 hgd1 (by omega))
      clear hdp
      simp only [List.getElem_toArray, List.getElem_cons_zero, List.getElem_cons_succ, fillR, Act.put, List.setIfInBounds_toArray, List.set_cons_zero, List.set_cons_succ, h8, h9, h10] at hK ⊢
      go_simp
      refine HV.out.mono ?_
      rintro e w' ⟨u, rfl, hO, hW⟩
      have hq' := hK.out u w' (hR.trans (hW.mono hR.size)) hW ⟨_, hR.size, hO⟩
      clear hK hW hO
      go_wp2_with fail
      exact hq'
    | i' + 12, h => omega
  · intro v wx hR hV
    have h4 : v 4 = _ := hV 4 (by omega)
    have h10 : v 10 = _ := hV 10 (by omega)
    obtain ⟨b0, hb0, hO⟩ : owV w2.heap.size (writesL N g lc) (v 11) wx := hV 11 (by omega)
    obtain ⟨Pw, qw, h11⟩ := hO.form
    obtain ⟨m, hm⟩ : ∃ m, (writesL N g lc).length = m := ⟨_, rfl⟩
    rw [h11, hm] at hO
    rw [hm] at h11
    have hlt := HL.out.1.lg.lt
    have hfull := below_of HB2.out.1 hR
    have hlen9 := behind_length HL.out.2.2.2.2.1 HL.out.2.2.2.2.2.1
    have hj := HL.out.1.geo.j1
    have HC := Lib.hid (lg_commit (HL.out.1.lg.below hfull) HL.out.1.geo (by omega) (hO.wrs.mono (A' := fun q => w2.heap.size ≤ q) (fun g hg _ => by rcases hg with h | h <;> omega)) (fun g hg => by simp; omega) ⟨(writes_right (behind_wf HL.out.1.wf HL.out.2.2.2.2.1 HL.out.2.2.2.2.2.1) HL.out.2.2.2.2.1).1, (writes_right (behind_wf HL.out.1.wf HL.out.2.2.2.2.1 HL.out.2.2.2.2.2.1) HL.out.2.2.2.2.1).2⟩ (by have := HL.out.2.2.2.2.2.2; omega))
    have HV := Lib.hid (And.intro hfull hR)
    clear hV hR hO hfull hlt
    simp only [fillR, Act.put, List.setIfInBounds_toArray, List.set_cons_zero, List.set_cons_succ, h4, h11, List.drop_succ_cons, List.drop_zero]
    go_wp2_with (first
      | (go_at_call 28; refine HC.out.mono ?_; rintro e w4 ⟨rfl, hS4, hst4⟩; have ht4 := hst4.keep _ _ _ (by decide) htX (HL.out.1.blk.below HV.out.1 htl); have u2 := ht4.cell 2; have uf := ht4.frozen 2; simp only [List.getElem?_cons_succ, List.getElem?_cons_zero] at u2; have H4 := Lib.hid (And.intro hS4 (And.intro hst4 ht4)); clear hS4 hst4 ht4)
      | go_in)
    go_ret
    obtain ⟨⟨S', hL', hdv⟩, hst, ht4⟩ := H4.out
    have hlt := HL.out.1.lg.lt
    have hbs := HL.out.1.lg.base
    have hsB := HL.out.1.lg.size
    have hA := HL.out.2.1
    have ho : Only [t] w4 (w4.setCell ⟨t, 2, none⟩ (.map (some M'))) := (Only.refl _ w4).setCell (p := ⟨t, 2, none⟩) (.inl (by simp)) _
    have hM' := HB2.out.2
    have hs4 := hst.size
    have hs3 := HV.out.2.size
    have htX' : t ≠ D ∧ t ≠ L ∧ t ≠ G := by simpa using htX
    have hX' : ∀ q, (A q ∨ w.heap.size ≤ q) → q ∉ [D, L, G] := fun q hq => by
      rcases hq with hq | hq
      · have := (hA q hq).2
        simp at this ⊢
        omega
      · simp; omega
    have hT3 := (((H2.out.2.1.mono (A' := fun q => A q ∨ w.heap.size ≤ q) (fun q hq _ => by rcases hq with h | h; exact .inl h; exact .inr (by omega)) (Nat.le_refl _)).below HV.out.2).stp hst hX').only ho (by simp; omega) (fun q hq => by
      rcases hq with hq | hq
      · have := (hA q hq).2
        simp at this ⊢
        omega
      · simp; omega)
    refine ⟨rfl, ⟨S', M', ⟨hL'.set1 (p := ⟨t, 2, none⟩) htB htX'.1 htX'.2.1 htX'.2.2, HL.out.1.geo, hT3, H2.out.2.2, ht4.set_ 2 _⟩, hdv⟩, ?_⟩
    exact ((Stp.of_below hsB HV.out.1).trans (hst.mono (fun q hq _ => by simp at hq ⊢; omega))).trans ((stp_set (o := 2) (w := w4) (Nat.le_trans hsB (by omega)) htB (.map (some M'))).mono (fun q hq _ => by simp at hq ⊢; omega))
end Go.Proofs.YtkmkblhmjeeaeaaGreatDoor
end

/-
  The law's known answers: the chapter's examples. Condition: the constants lie in their variable.
-/

section
set_option linter.unusedSimpArgs false
set_option linter.unusedVariables false
set_option maxRecDepth 100000
namespace Go.Proofs.YtkmkblhmjeeaeaaGreatDoor
open Go.RowKit Go.Maps

/-- The one change that is made, and what it makes. -/
def kC (dt : List B8) : Ch := ⟨2, 0, 0, 0, 0, dt, false⟩
def kV (b : Nat) : Cv := ⟨2, 0, 0, 0, 0, some ⟨b, 0, none⟩, 512, 512, false⟩
theorem kchk (b : Nat) : chkL [kV b] ((4 : Nat) : Int) = 0 := rfl
theorem kgood {dt : List B8} (h : dt.length = 512) : Good7 4 [kC dt] := ⟨fun c hc => by
  simp only [List.mem_singleton] at hc
  subst hc
  exact ⟨by show (0 : Int) ≤ 2; omega, by show (2 : Int) < 4; omega⟩, by simp, fun c hc _ => by
  simp only [List.mem_singleton] at hc
  subst hc
  exact ⟨rfl, by show dt.length ≤ 512; omega⟩⟩
theorem usedN_none : ∀ N, usedN (fun _ => none) N = 0
  | 0 => rfl
  | N + 1 => by
    show usedN _ N + 0 = 0
    rw [usedN_none N]
theorem kbehind {dt : List B8} (h : dt.length = 512) : ∃ g bl, tabBehind (fun _ => none) 4 14 [kC dt] = some g ∧ g 2 = some ((kC dt).hd bl) ∧ usedN g 4 = 8 := by
  have hcl : cleared (fun _ => none) [kC dt] = fun _ => none := by
    funext i
    unfold cleared
    split <;> rfl
  have hf := frees_length (f := fun _ => none) (Wf.empty 4 14)
  rw [usedN_none] at hf
  have hb : blks dt.length = 8 := by rw [h]; rfl
  unfold tabBehind
  rw [hcl, bfold_cons]
  unfold bstep
  rw [if_neg (show ¬ (kC dt).drop = true from Bool.false_ne_true), if_neg (by show ¬ (frees (fun _ => none) 4 14).length < blks dt.length; omega)]
  refine ⟨tset (fun _ => none) 2 (some ((kC dt).hd ((frees (fun _ => none) 4 14).take (blks dt.length)))), _, rfl, tset_same _ _ _, ?_⟩
  rw [usedN_set rfl, usedN_none, if_pos (by decide)]
  show 0 + blks dt.length = 8
  omega
theorem knwr {dt : List B8} (h : dt.length = 512) : nwr [kC dt] = 9 := by
  unfold nwr need
  show 1 + (if false = true then 0 else blks dt.length) + nwr [] = 9
  rw [if_neg (by decide), h]
  rfl
theorem kcv {w : World} {g b : Nat} (hb : Blk w g 44 [.int .i64 2, .int .i64 0, .int .i64 0, .int .i64 0, .int .i64 0, .slice (some ⟨b, 0, none⟩) 512 512, .bool false]) : CvIn w (some ⟨g, 0, none⟩) 1 [kV b] := by
  refine ⟨rfl, by omega, fun _ => ⟨g, 0, rfl, hb.lt, fun i x hx => ?_⟩⟩
  match i, hx with
  | 0, hx =>
    simp only [List.getElem?_cons_zero, Option.some.injEq] at hx
    subst hx
    exact ⟨hb.cell 0, hb.cell 1, hb.cell 2, hb.cell 3, hb.cell 4, hb.cell 5, hb.cell 6⟩
  | i + 1, hx => simp at hx
theorem kch {A : Nat → Prop} {w : World} {b : Nat} {dt : List B8} (h : Bts A w (.slice (some ⟨b, 0, none⟩) 512 512) dt) : ChsIn A w [kV b] [kC dt] := by
  refine ⟨rfl, fun i x c hx hc => ?_⟩
  match i, hx, hc with
  | 0, hx, hc =>
    simp only [List.getElem?_cons_zero, Option.some.injEq] at hx hc
    subst hx
    subst hc
    exact ⟨rfl, rfl, rfl, rfl, rfl, rfl, h⟩
  | i + 1, hx, _ => simp at hx
theorem geo4 : Geo 40 20 4 14 := ⟨by omega, by omega, by omega, by omega, by omega, by omega, by omega⟩

set_option maxRecDepth 100000 in
set_option maxHeartbeats 8000000 in
theorem iknown_walk (ks : List B32) (w : World) (hK : Roots ks w) : Calls Tryz.prog 13 #[] w fun e w' => e = .returned (.bool true) ∧ Below w.heap.size w w' := by
  have hpos := hK.pos
  have HK := Lib.hid hK
  clear hK
  obtain ⟨dt, hdt⟩ : ∃ dt : List B8, List.replicate 512 0 = dt := ⟨_, rfl⟩
  have hdl : dt.length = 512 := by rw [← hdt]; simp
  have hmk : ∀ w : World, (Instr.makeSlice 40 (.int .i64 512) (.int .i64 512)).run Tryz.prog w = .ok (.slice (some ⟨w.heap.size, 0, none⟩) 512 512) (w.alloc (.cells (Vb dt).toArray 5)) := fun w => by
    have := make_bytes w 512 (by omega) (by omega)
    rw [show (512 : Int).toNat = 512 from rfl, zeros_Vb, hdt] at this
    exact this
  obtain ⟨g, bl, hbh, hg2, hus⟩ := kbehind hdl
  have HD := Lib.hid (And.intro hdl (And.intro hbh (And.intro hg2 hus)))
  clear hdt hdl hbh hg2 hus
  go_enter Tryz.func13, Tryz.ntmps13
  go_wp2_with (first
    | (go_at_call 21; refine (new_idle w 40 (by omega) (by omega)).mono ?_; rintro e w1 ⟨rfl, hI, hW⟩; have H1 := Lib.hid (And.intro hI hW); clear hI hW)
    | (go_at_call 22; refine (open_none ks w.heap.size _ (w.heap.size + 1) w.heap.size 40 20 (fun _ => List.replicate 64 0) 0 0 0 H1.out.1 H1.out.2.size (HK.out.below H1.out.2 hpos) hpos (by omega) (by omega) (by omega) (by omega) (by unfold doneB zeros64; rw [if_pos rfl]) (by rw [zeros_from]; omega)).mono ?_; rintro e w2 ⟨rfl, hI, hG, hS⟩; have hLg : Lg ks w.heap.size (w.heap.size + 1) w.heap.size w1.heap.size 40 20 (fun _ => List.replicate 64 0) 0 w2 := ⟨⟨0, 0, 0, false, Nat.le_refl _, Nat.le_refl _, Nat.le_refl _, hI, hG⟩, (HK.out.below (H1.out.2.trans hS.below) hpos), hpos, H1.out.2.size, Nat.le_trans H1.out.2.size hS.size⟩; have HF := Lib.hid (format_ok (fun _ => False) hLg geo4 (by omega) (fun k _ => rfl)); have H2 := Lib.hid (And.intro hS hLg); clear hI hG hS hLg)
    | (go_at_call 12; refine HF.out.mono ?_; rintro e w3 ⟨rfl, ⟨S', hT, hdv⟩, hst⟩; have HR1 := Lib.hid (troom_any hT); have H3 := Lib.hid (And.intro hT hst); clear hT hdv hst HF)
    | (go_at_call 19; refine HR2.out.mono ?_; rintro e w9 ⟨rfl, hW⟩; rw [HD.out.2.2.2]; have H9 := Lib.hid hW; clear hW HR2)
    | (go_at_call 19; refine HR1.out.mono ?_; rintro e w4 ⟨rfl, hW⟩; rw [usedN_none]; have hT4 := H3.out.1.below hW; have hBA := new_below w4 (.cells (Vb dt).toArray 5); have hBB := new_below (w4.alloc (.cells (Vb dt).toArray 5)) (.cells #[.int .i64 2, .int .i64 0, .int .i64 0, .int .i64 0, .int .i64 0, .slice (some ⟨w4.heap.size, 0, none⟩) 512 512, .bool false] 44); have hB6 := below_of hBA hBB; have hkA := (Blk.new w4 5 (Vb dt)).alloc (.cells #[.int .i64 2, .int .i64 0, .int .i64 0, .int .i64 0, .int .i64 0, .slice (some ⟨w4.heap.size, 0, none⟩) 512 512, .bool false] 44); have hkB := Blk.new (w4.alloc (.cells (Vb dt).toArray 5)) 44 [.int .i64 2, .int .i64 0, .int .i64 0, .int .i64 0, .int .i64 0, .slice (some ⟨w4.heap.size, 0, none⟩) 512 512, .bool false]; rw [World.size_alloc] at hkB; have hT6 := hT4.below hB6; have hlt4 := hT4.lg.lt; have htl4 := hT4.blk.lt; have hlt2 := H2.out.2.lt; have hs2 := H2.out.1.size; have hs1 := H1.out.2.size;
        have hT6' : Tb ks w.heap.size (w.heap.size + 1) w.heap.size w1.heap.size 40 20 4 14 S' (0 + 50) (fun q => q = w4.heap.size) (w2.heap.size + 1) w2.heap.size 0 (fun _ => none) ((w4.alloc (.cells (Vb dt).toArray 5)).alloc (.cells #[.int .i64 2, .int .i64 0, .int .i64 0, .int .i64 0, .int .i64 0, .slice (some ⟨w4.heap.size, 0, none⟩) 512 512, .bool false] 44)) := ⟨hT6.lg, hT6.geo, hT6.tab.mono (fun g hg _ => hg.elim) (Nat.le_refl _), hT6.wf, hT6.blk⟩;
        have HA := Lib.hid (apply_ok (cap := 1) hT6' (by omega) (by omega) (fun q hq => ⟨by subst hq; simp; omega, by subst hq; simp; omega⟩) (by simp; omega) (by omega) (kcv hkB) (kch (Bts.whole hkA (.inl rfl) rfl HD.out.1 (by omega))) (fun x hx => by simp only [List.mem_singleton] at hx; subst hx; exact ⟨by show (-9223372036854775808 : Int) ≤ 2; omega, by show (2 : Int) ≤ 9223372036854775807; omega⟩) (by omega) (kchk _) (kgood HD.out.1) HD.out.2.1 (by rw [knwr HD.out.1]; omega));
        have H4 := Lib.hid (And.intro hW (below_of hW hB6)); clear hW HR1 hT4 hBA hBB hB6 hkA hkB hT6 hT6' hlt4 htl4 hlt2)
    | (go_at_call 9; refine HA.out.mono ?_; rintro e w7 ⟨rfl, ⟨S2, M2, hT7, hdv⟩, hst7⟩; have hG7 := get_yes hT7.tab hT7.blk (i := 2) (by omega) HD.out.2.2.1 (by show dt.length ≤ 512; rw [HD.out.1]; omega); rw [show ((kC dt).hd bl).data.length = 512 from HD.out.1] at hG7; have HGt := Lib.hid hG7; have H7 := Lib.hid (And.intro hT7 hst7); clear hT7 hdv hst7 HA hG7)
    | (go_at_call 14; refine HGt.out.mono ?_; rintro e w8 ⟨P8, c8, rfl, hB8, hn8, hW⟩; have hbn := new_below w8 (.cells #[.int .i64 0, .int .i64 0, .int .i64 0, .int .i64 0, .slice P8 512 c8] 42); have HR2 := Lib.hid (troom_any ((H7.out.1.below hW).below hbn)); have H8 := Lib.hid (below_of hW hbn); clear hB8 hn8 hW hbn HGt)
    | (go_at_call 38; refine (iblocks_any _ 64 (by omega)).mono ?_; rintro e w' ⟨rfl, rfl⟩; rw [show blks 64 = 1 from rfl])
    | (go_at_call 38; refine (iblocks_any _ 65 (by omega)).mono ?_; rintro e w' ⟨rfl, rfl⟩; rw [show blks 65 = 2 from rfl])
    | go_in)
  go_ret
  have s1 := H1.out.2.size
  have s2 := H2.out.1.size
  have s3 := H3.out.2.size
  have s6 := H4.out.2.size
  have s7 := H7.out.2.size
  have s8 := H8.out.size
  refine ⟨rfl, ?_⟩
  have b2 : Below w.heap.size w w2 := H1.out.2.trans H2.out.1.below
  have b3 := b2.trans H3.out.2.below
  have b6 := b3.trans (H4.out.2.mono (by omega))
  have b7 := b6.trans H7.out.2.below
  have b8 := b7.trans (H8.out.mono (by omega))
  exact b8.trans (H9.out.mono (by omega))
end Go.Proofs.YtkmkblhmjeeaeaaGreatDoor
end

/-
  The law's fresh: a table of five nodes, its log and disk, and the document's. Condition: the constants lie in their variable.
-/

section
set_option linter.unusedSimpArgs false
set_option linter.unusedVariables false
set_option maxRecDepth 100000
namespace Go.Proofs.YtkmkblhmjeeaeaaGreatDoor
open Go.RowKit Go.Maps

theorem geo5 : Geo 51 24 5 20 := ⟨by omega, by omega, by omega, by omega, by omega, by omega, by omega⟩
/-- Five nodes of the document's that aren't there. -/
def five0 : List Value := [.int .i64 0, .int .i64 0, .int .i64 0, .int .i64 0, .slice none 0 0, .int .i64 0, .int .i64 0, .int .i64 0, .int .i64 0, .slice none 0 0, .int .i64 0, .int .i64 0, .int .i64 0, .int .i64 0, .slice none 0 0, .int .i64 0, .int .i64 0, .int .i64 0, .int .i64 0, .slice none 0 0, .int .i64 0, .int .i64 0, .int .i64 0, .int .i64 0, .slice none 0 0]
def no5 : List Value := [.bool false, .bool false, .bool false, .bool false, .bool false]
theorem make_five (w : World) : (Instr.makeSlice 68 (.int .i64 5) (.int .i64 5)).run Tryz.prog w = .ok (.slice (some ⟨w.heap.size, 0, none⟩) 5 5) (w.alloc (.cells five0.toArray 53)) := by kernel_rfl
theorem make_no5 (w : World) : (Instr.makeSlice 69 (.int .i64 5) (.int .i64 5)).run Tryz.prog w = .ok (.slice (some ⟨w.heap.size, 0, none⟩) 5 5) (w.alloc (.cells no5.toArray 4)) := by kernel_rfl
def fiveV (b0 : Nat) : Value → World → Prop := fun u w => ∃ g, u = .slice (some ⟨g, 0, none⟩) 5 5 ∧ b0 ≤ g ∧ Blk w g 53 five0
def no5V (b0 : Nat) : Value → World → Prop := fun u w => ∃ g, u = .slice (some ⟨g, 0, none⟩) 5 5 ∧ b0 ≤ g ∧ Blk w g 4 no5
def tab5V (b0 : Nat) : Value → World → Prop := fun u w => ∃ gN gI, u = .agg #[.slice (some ⟨gN, 0, none⟩) 5 5, .slice (some ⟨gI, 0, none⟩) 5 5, .int .i64 20] ∧ b0 ≤ gN ∧ b0 ≤ gI ∧ Blk w gN 53 five0 ∧ Blk w gI 4 no5
/-- The document's table, as it lies. -/
def Doc5 (b0 p : Nat) (w : World) : Prop := ∃ gN gI, b0 ≤ p ∧ b0 ≤ gN ∧ b0 ≤ gI ∧ Blk w p 71 [.slice (some ⟨gN, 0, none⟩) 5 5, .slice (some ⟨gI, 0, none⟩) 5 5, .int .i64 20] ∧ Blk w gN 53 five0 ∧ Blk w gI 4 no5
def box5V (b0 : Nat) : Value → World → Prop := fun u w => ∃ p, u = .pointer (some ⟨p, 0, none⟩) ∧ Doc5 b0 p w
theorem Doc5.below {b0 p : Nat} {w w' : World} (h : Doc5 b0 p w) (hb : Below w.heap.size w w') : Doc5 b0 p w' := by
  obtain ⟨gN, gI, h1, h2, h3, h4, h5, h6⟩ := h
  exact ⟨gN, gI, h1, h2, h3, h4.below hb h4.lt, h5.below hb h5.lt, h6.below hb h6.lt⟩
theorem Doc5.mono {b0 b1 p : Nat} {w : World} (h : Doc5 b0 p w) (hb : b1 ≤ b0) : Doc5 b1 p w := by
  obtain ⟨gN, gI, h1, h2, h3, h4⟩ := h
  exact ⟨gN, gI, by omega, by omega, by omega, h4⟩
theorem fiveV.st (b0 : Nat) : StV (fiveV b0) := fun _ _ _ ⟨g, h1, h2, h3⟩ hb => ⟨g, h1, h2, h3.below hb h3.lt⟩
theorem no5V.st (b0 : Nat) : StV (no5V b0) := fun _ _ _ ⟨g, h1, h2, h3⟩ hb => ⟨g, h1, h2, h3.below hb h3.lt⟩
theorem tab5V.st (b0 : Nat) : StV (tab5V b0) := fun _ _ _ ⟨g, i, h1, h2, h3, h4, h5⟩ hb => ⟨g, i, h1, h2, h3, h4.below hb h4.lt, h5.below hb h5.lt⟩
theorem box5V.st (b0 : Nat) : StV (box5V b0) := fun _ _ _ ⟨p, h1, h2⟩ hb => ⟨p, h1, h2.below hb⟩
/-- The disk of a new table of five nodes. -/
theorem fresh_disk {ks : List B32} {S' : Nat → List B8} (h : dvj 24 S' = layS (dvj 24 (fun _ => List.replicate 64 0)) [(0, frontN ks 5)]) : OnDisk 5 (dvj 24 S') (fun _ => none) ∧ dvj 24 S' 0 = frontN ks 5 := by
  rw [h]
  refine ⟨⟨fun i _ => ?_, fun i h q hh _ => by cases hh⟩, ?_⟩
  · simp only [layS, List.foldl_cons, List.foldl_nil, upd]
    rw [if_neg (by simp)]
    rfl
  · simp only [layS, List.foldl_cons, List.foldl_nil, upd]
    rw [if_pos (by simp)]
/-- What fresh leaves. -/
def FreshPost (ks : List B32) (w : World) (e : Ending) (w' : World) : Prop := ∃ a b p S, e = .returned (.tuple #[.pointer (some ⟨w.heap.size + 1, 0, none⟩), .pointer (some ⟨a, 0, none⟩), .pointer (some ⟨b + 1, 0, none⟩), .pointer (some ⟨p, 0, none⟩)]) ∧
  w.heap.size + 2 ≤ a ∧ a < b ∧ Tb ks w.heap.size (w.heap.size + 1) w.heap.size a 51 24 5 20 S 50 (fun _ => False) (b + 1) b 0 (fun _ => none) w' ∧ Doc5 (b + 2) p w' ∧ Below w.heap.size w w' ∧ OnDisk 5 (dvj 24 S) (fun _ => none) ∧ dvj 24 S 0 = frontN ks 5

set_option maxRecDepth 100000 in
set_option maxHeartbeats 8000000 in
theorem fresh_walk (ks : List B32) (w : World) (hK : Roots ks w) : Calls Tryz.prog 5 #[] w (FreshPost ks w) := by
  have hpos := hK.pos
  have HK := Lib.hid hK
  clear hK
  have hmf := make_five
  have hmn := make_no5
  go_enter Tryz.func5, Tryz.ntmps5
  go_wp2_with (first
    | (go_at_call 21; refine (new_idle w 51 (by omega) (by omega)).mono ?_; rintro e w1 ⟨rfl, hI, hW⟩; have H1 := Lib.hid (And.intro hI hW); clear hI hW)
    | (go_at_call 22; refine (open_none ks w.heap.size _ (w.heap.size + 1) w.heap.size 51 24 (fun _ => List.replicate 64 0) 0 0 0 H1.out.1 H1.out.2.size (HK.out.below H1.out.2 hpos) hpos (by omega) (by omega) (by omega) (by omega) (by unfold doneB zeros64; rw [if_pos rfl]) (by rw [zeros_from]; omega)).mono ?_; rintro e w2 ⟨rfl, hI, hG, hS⟩; have hLg : Lg ks w.heap.size (w.heap.size + 1) w.heap.size w1.heap.size 51 24 (fun _ => List.replicate 64 0) 0 w2 := ⟨⟨0, 0, 0, false, Nat.le_refl _, Nat.le_refl _, Nat.le_refl _, hI, hG⟩, (HK.out.below (H1.out.2.trans hS.below) hpos), hpos, H1.out.2.size, Nat.le_trans H1.out.2.size hS.size⟩; have HF := Lib.hid (format_ok (fun _ => False) hLg geo5 (by omega) (fun k _ => rfl)); have H2 := Lib.hid (And.intro hS hLg); clear hI hG hS hLg)
    | (go_at_call 12; refine HF.out.mono ?_; rintro e w3 ⟨rfl, ⟨S', hT, hdv⟩, hst⟩; have H3 := Lib.hid (And.intro hT (And.intro hst (fresh_disk hdv))); clear hT hdv hst HF)
    | go_in)
  refine wp_hideQ ?_
  intro QQ hQQ
  have hz3 := H3.out.2.1.size
  refine wp_region_lookA [some 34, some 35, some 36, some 37, some 38, some 39, some 40, some 0, some 1, some 2, some 3] (LV [isV (.pointer (some ⟨w.heap.size + 1, 0, none⟩)), isV (.pointer (some ⟨w1.heap.size, 0, none⟩)), isV (.pointer (some ⟨w2.heap.size + 1, 0, none⟩)), fiveV w3.heap.size, no5V w3.heap.size, tab5V w3.heap.size, box5V w3.heap.size, isV (.pointer (some ⟨w.heap.size + 1, 0, none⟩)), isV (.pointer (some ⟨w1.heap.size, 0, none⟩)), isV (.pointer (some ⟨w2.heap.size + 1, 0, none⟩)), box5V w3.heap.size]) (fun _ => []) (fun wx => Below w3.heap.size w3 wx) (fun _ a b => Below a.heap.size a b) 11 (by kernel_rfl) rfl rfl rfl (by kernel_rfl) (drew_below w3) (fun i v j x w h hj _ => LV.loc i v j x w h hj) ?_ (LV.st (by simp [isV.st, fiveV.st, no5V.st, tab5V.st, box5V.st])) ?_ ?_
  · intro i hi
    match i, hi with
    | 0, _ => exact (by decide +kernel)
    | 1, _ => exact (by decide +kernel)
    | 2, _ => exact (by decide +kernel)
    | 3, _ => exact (by decide +kernel)
    | 4, _ => exact (by decide +kernel)
    | 5, _ => exact (by decide +kernel)
    | 6, _ => exact (by decide +kernel)
    | 7, _ => exact (by decide +kernel)
    | 8, _ => exact (by decide +kernel)
    | 9, _ => exact (by decide +kernel)
    | 10, _ => exact (by decide +kernel)
    | i + 11, h => omega
  · intro i hi
    match i, hi with
    | 0, _ =>
      refine StepL.of rfl [] (by decide +kernel) ?_
      intro v wx hR hd K hK
      clear hd
      simp only [List.getElem_toArray, List.getElem_cons_zero, List.getElem_cons_succ, fillR, Act.put, List.setIfInBounds_toArray, List.set_cons_zero, List.set_cons_succ] at hK ⊢
      go_simp
      exact hK.out _ _ hR (Below.refl _ _) rfl
    | 1, _ =>
      refine StepL.of rfl [] (by decide +kernel) ?_
      intro v wx hR hd K hK
      clear hd
      simp only [List.getElem_toArray, List.getElem_cons_zero, List.getElem_cons_succ, fillR, Act.put, List.setIfInBounds_toArray, List.set_cons_zero, List.set_cons_succ] at hK ⊢
      go_simp
      exact hK.out _ _ hR (Below.refl _ _) rfl
    | 2, _ =>
      refine StepL.of rfl [] (by decide +kernel) ?_
      intro v wx hR hd K hK
      clear hd
      simp only [List.getElem_toArray, List.getElem_cons_zero, List.getElem_cons_succ, fillR, Act.put, List.setIfInBounds_toArray, List.set_cons_zero, List.set_cons_succ] at hK ⊢
      go_simp
      exact hK.out _ _ hR (Below.refl _ _) rfl
    | 3, _ =>
      refine StepL.of rfl [] (by decide +kernel) ?_
      intro v wx hR hd K hK
      have hn := Blk.new wx 53 five0
      have hnb := new_below wx (.cells five0.toArray 53)
      have HV := Lib.hid (And.intro hn (And.intro hnb hR.size))
      clear hn hnb
      clear hd
      simp only [List.getElem_toArray, List.getElem_cons_zero, List.getElem_cons_succ, fillR, Act.put, List.setIfInBounds_toArray, List.set_cons_zero, List.set_cons_succ] at hK ⊢
      go_simp
      exact hK.out _ _ (hR.trans (HV.out.2.1.mono hR.size)) HV.out.2.1 ⟨_, rfl, HV.out.2.2, HV.out.1⟩
    | 4, _ =>
      refine StepL.of rfl [] (by decide +kernel) ?_
      intro v wx hR hd K hK
      have hn := Blk.new wx 4 no5
      have hnb := new_below wx (.cells no5.toArray 4)
      have HV := Lib.hid (And.intro hn (And.intro hnb hR.size))
      clear hn hnb
      clear hd
      simp only [List.getElem_toArray, List.getElem_cons_zero, List.getElem_cons_succ, fillR, Act.put, List.setIfInBounds_toArray, List.set_cons_zero, List.set_cons_succ] at hK ⊢
      go_simp
      exact hK.out _ _ (hR.trans (HV.out.2.1.mono hR.size)) HV.out.2.1 ⟨_, rfl, HV.out.2.2, HV.out.1⟩
    | 5, _ =>
      refine StepL.of rfl [3, 4] (by decide +kernel) ?_
      intro v wx hR hd K hK
      obtain ⟨gN, h3, hgN, hBN⟩ : fiveV w3.heap.size (v 3) wx := hd 3 (by simp)
      obtain ⟨gI, h4, hgI, hBI⟩ : no5V w3.heap.size (v 4) wx := hd 4 (by simp)
      have HV := Lib.hid (And.intro hBN hBI)
      clear hBN hBI
      clear hd
      simp only [List.getElem_toArray, List.getElem_cons_zero, List.getElem_cons_succ, fillR, Act.put, List.setIfInBounds_toArray, List.set_cons_zero, List.set_cons_succ, h3, h4] at hK ⊢
      go_simp
      exact hK.out _ _ hR (Below.refl _ _) ⟨gN, gI, rfl, hgN, hgI, HV.out.1, HV.out.2⟩
    | 6, _ =>
      refine StepL.of rfl [5] (by decide +kernel) ?_
      intro v wx hR hd K hK
      obtain ⟨gN, gI, h5, hgN, hgI, hBN, hBI⟩ : tab5V w3.heap.size (v 5) wx := hd 5 (by simp)
      have hn := Blk.new wx 71 [.slice (some ⟨gN, 0, none⟩) 5 5, .slice (some ⟨gI, 0, none⟩) 5 5, .int .i64 20]
      have hnb := new_below wx (.cells #[.slice (some ⟨gN, 0, none⟩) 5 5, .slice (some ⟨gI, 0, none⟩) 5 5, .int .i64 20] 71)
      have HV := Lib.hid (And.intro hn (And.intro hnb (And.intro hR.size (And.intro (hBN.below hnb hBN.lt) (hBI.below hnb hBI.lt)))))
      clear hn hnb hBN hBI
      clear hd
      simp only [List.getElem_toArray, List.getElem_cons_zero, List.getElem_cons_succ, fillR, Act.put, List.setIfInBounds_toArray, List.set_cons_zero, List.set_cons_succ, h5] at hK ⊢
      go_simp
      exact hK.out _ _ (hR.trans (HV.out.2.1.mono hR.size)) HV.out.2.1 ⟨_, rfl, gN, gI, HV.out.2.2.1, hgN, hgI, HV.out.1, HV.out.2.2.2.1, HV.out.2.2.2.2⟩
    | 7, _ =>
      refine StepL.of rfl [0] (by decide +kernel) ?_
      intro v wx hR hd K hK
      have h0 : v 0 = _ := hd 0 (by simp)
      clear hd
      simp only [List.getElem_toArray, List.getElem_cons_zero, List.getElem_cons_succ, fillR, Act.put, List.setIfInBounds_toArray, List.set_cons_zero, List.set_cons_succ, h0] at hK ⊢
      go_simp
      exact hK.out _ _ hR (Below.refl _ _) rfl
    | 8, _ =>
      refine StepL.of rfl [1] (by decide +kernel) ?_
      intro v wx hR hd K hK
      have h1 : v 1 = _ := hd 1 (by simp)
      clear hd
      simp only [List.getElem_toArray, List.getElem_cons_zero, List.getElem_cons_succ, fillR, Act.put, List.setIfInBounds_toArray, List.set_cons_zero, List.set_cons_succ, h1] at hK ⊢
      go_simp
      exact hK.out _ _ hR (Below.refl _ _) rfl
    | 9, _ =>
      refine StepL.of rfl [2] (by decide +kernel) ?_
      intro v wx hR hd K hK
      have h2 : v 2 = _ := hd 2 (by simp)
      clear hd
      simp only [List.getElem_toArray, List.getElem_cons_zero, List.getElem_cons_succ, fillR, Act.put, List.setIfInBounds_toArray, List.set_cons_zero, List.set_cons_succ, h2] at hK ⊢
      go_simp
      exact hK.out _ _ hR (Below.refl _ _) rfl
    | 10, _ =>
      refine StepL.of rfl [6] (by decide +kernel) ?_
      intro v wx hR hd K hK
      obtain ⟨p, h6, hp⟩ : box5V w3.heap.size (v 6) wx := hd 6 (by simp)
      have HV := Lib.hid hp
      clear hp
      clear hd
      simp only [List.getElem_toArray, List.getElem_cons_zero, List.getElem_cons_succ, fillR, Act.put, List.setIfInBounds_toArray, List.set_cons_zero, List.set_cons_succ, h6] at hK ⊢
      go_simp
      exact hK.out _ _ hR (Below.refl _ _) ⟨p, rfl, HV.out⟩
    | i + 11, h => omega
  · intro v wx hR hV
    have h7 : v 7 = _ := hV 7 (by omega)
    have h8 : v 8 = _ := hV 8 (by omega)
    have h9 : v 9 = _ := hV 9 (by omega)
    obtain ⟨p, h10, hp⟩ : box5V w3.heap.size (v 10) wx := hV 10 (by omega)
    have HV := Lib.hid (And.intro hR hp)
    clear hV hR hp
    simp only [fillR, Act.put, List.setIfInBounds_toArray, List.set_cons_zero, List.set_cons_succ, h7, h8, h9, h10]
    go_wp2_with fail
    have l1 := H1.out.1.lt
    have l2 := H2.out.2.lt
    have l3 := H3.out.1.blk.lt
    have s1 := H1.out.2.size
    have s2 := H2.out.1.size
    have b2 : Below w.heap.size w w2 := H1.out.2.trans H2.out.1.below
    have b3 := b2.trans H3.out.2.1.below
    refine bodyPost_ret (v := .tuple #[.pointer (some ⟨w.heap.size + 1, 0, none⟩), .pointer (some ⟨w1.heap.size, 0, none⟩), .pointer (some ⟨w2.heap.size + 1, 0, none⟩), .pointer (some ⟨p, 0, none⟩)]) (by simp [results, Tryz.results5, go_sem]) rfl ?_
    exact ⟨w1.heap.size, w2.heap.size, p, S', rfl, by omega, l2.2.2, H3.out.1.below HV.out.1, HV.out.2.mono (by omega), b3.trans (HV.out.1.mono (by omega)), H3.out.2.2⟩
end Go.Proofs.YtkmkblhmjeeaeaaGreatDoor
end
