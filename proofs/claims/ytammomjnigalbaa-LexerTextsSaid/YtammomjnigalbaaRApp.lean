/-
  Appends: onto a row of the call's own, whatever comes; as a step of a region that draws, and of one that doesn't. Plain theorems on the rules; conditions: those of each.
-/
import Derived.Test.YtammomjnigalbaaRWords
set_option linter.unusedSimpArgs false
set_option linter.unusedVariables false
set_option maxRecDepth 100000
namespace Go.Proofs.Ytammomjnigalbaa
open Go.RowKit

theorem wpList_run {P : Program} {ops : Array Oper} {Q : Exit → Act → World → Prop} {rest : List Oper} {o : Oper} {a : Act} {w w' : World} {y : Value} (hgd : o.guard = none) (hr : (execOp a.eval o).run P w = .ok (.value y) w') (h : wpList P ops Q rest (a.put o.dst y) w') : wpList P ops Q (o :: rest) a w :=
  wpList_plain hgd fun K hK => by unfold Oper.wp; rw [hr]; exact hK _ _ h
theorem step_run {P : Program} {ops : Array Oper} {o : Oper} {a : Act} {w w' : World} {K : Act → World → Prop} {Q : Exit → Act → World → Prop} {E : Prop} {y : Value} (hgd : o.guard = none) (hr : (execOp a.eval o).run P w = .ok (.value y) w') (h : K (a.put o.dst y) w') :
    if Region.wanted o (yielded ops a.tmps) = true then Oper.wp P o a w K Q else E := by
  have hw : Region.wanted o (yielded ops a.tmps) = true := by simp [Region.wanted, hgd]
  rw [if_pos hw]
  unfold Oper.wp
  rw [hr]
  exact h
section
variable {P : Program} {ρ : Operand → Value} {o : Oper} {w : World}
/-- 'append(own, x..)', of however many. -/
theorem xe_app_any {s x : Operand} {t e base : Nat} {z : Value} {size bytes : Nat} (ho : o.op = .call { callee := .builtin .append, args := #[s, x], argTypes := #[t, t] }) (ht : P.underlying t = some (.slice e)) (hi : (P.info? e).map (fun i => (i.zero, i.size, i.bytes)) = some (some z, size, bytes)) (hzs : z.cells.size = size) (hsz : 0 < size)
    {v : Value} {n : Nat} {xs : List Value} (hs : ρ s = v) (hown : w.ownsRow base e size v n xs) {A : Option Addr} {m c : Nat} (hx : ρ x = .slice A m c) (news : List Value) (hl : news.length = m * size) (hnews : 0 < m → ∃ g off, A = some ⟨g, off, none⟩ ∧ ∀ (j : Nat) u, news[j]? = some u → w.cell? ⟨g, off + j, none⟩ = some u) (h1 : ∀ u ∈ news, u.oneCell' = true) (hmx : n + m ≤ 1000000) (hb : bytes ≤ 1000) (hbase : base ≤ w.heap.size) :
    ∃ v' w', (execOp ρ o).run P w = .ok (.value v') w' ∧ w'.ownsRow base e size v' (n + m) (xs ++ news) ∧ Only v.ownBlock.toList w w' ∧ (v'.ownBlock = v.ownBlock ∨ v'.ownBlock = some w.heap.size) := by
  rcases Nat.eq_zero_or_pos m with hm | hm
  · subst hm
    have hn : news = [] := List.eq_nil_of_length_eq_zero (by omega)
    subst hn
    obtain ⟨i, i1, i2, i3, i4⟩ := info_parts hi
    obtain ⟨R, q, hv, hq⟩ : ∃ R q, v = .slice R n q ∧ n ≤ q := by
      rcases hown.2 with ⟨rfl, rfl⟩ | ⟨g, cap, cur, rfl, _, _, h2, _⟩
      · exact ⟨_, _, rfl, Nat.le_refl _⟩
      · exact ⟨_, _, rfl, h2⟩
    subst hv
    refine ⟨.slice R n q, w, ?_, by rw [List.append_nil]; exact hown, Only.refl _ _, .inl rfl⟩
    have hrun := run_append_nothing (P := P) w t t o.type e i ht i1 R n q hq (.slice A 0 c)
      ⟨.inl ⟨_, ht⟩, fun w' => by cases A <;> simp [Builtin.lenOf], by cases A <;> simp [Builtin.firstCells, loadCells, loadCellsFrom], by cases A <;> simp [Builtin.firstCells, loadCells, loadCellsFrom], by simp, by simp⟩
    unfold execOp resolve
    simp only [ho, invoke, builtin, Sem.run_bind, Sem.run_pure, Result.andThen_ok, List.map_toArray, List.map_cons, List.map_nil, hs, hx, hrun]
  · obtain ⟨g, off, rfl, hc⟩ := hnews hm
    obtain ⟨y, w', hr, g', cap, rfl, k1, k2, k3⟩ := xe_app_own (P := P) (ρ := ρ) (w := w) (G := fun y w' => ∃ g' cap, y = .slice (some ⟨g', 0, none⟩) (n + m) cap ∧ w'.ownsRow base e size (.slice (some ⟨g', 0, none⟩) (n + m) cap) (n + m) (xs ++ news) ∧ Only v.ownBlock.toList w w' ∧ (v.ownBlock = some g' ∨ g' = w.heap.size)) ho ht hi hzs hsz hs hown hx news hl hc h1 hm hmx hb hbase (fun g' cap w' k1 k2 k3 => ⟨g', cap, rfl, k1, k2, k3⟩)
    exact ⟨_, w', hr, k1, k2, k3.imp (fun h => h.symm) (fun h => by rw [h]; rfl)⟩
end
section
variable {P : Program} {ops : Array Oper} {Q : Exit → Act → World → Prop} {o : Oper} {a : Act} {w : World}
theorem step_app {K : Act → World → Prop} {E : Prop} {s x : Operand} {t e base : Nat} {z : Value} {size bytes : Nat} (hgd : o.guard = none) (ho : o.op = .call { callee := .builtin .append, args := #[s, x], argTypes := #[t, t] }) (ht : P.underlying t = some (.slice e)) (hi : (P.info? e).map (fun i => (i.zero, i.size, i.bytes)) = some (some z, size, bytes)) (hzs : z.cells.size = size) (hsz : 0 < size)
    {v : Value} {n : Nat} {xs : List Value} {A : Option Addr} {m c : Nat} (news : List Value) (hs : a.eval s = v) (hown : w.ownsRow base e size v n xs) (hx : a.eval x = .slice A m c) (hl : news.length = m * size) (hnews : 0 < m → ∃ g off, A = some ⟨g, off, none⟩ ∧ ∀ (j : Nat) u, news[j]? = some u → w.cell? ⟨g, off + j, none⟩ = some u) (h1 : ∀ u ∈ news, u.oneCell' = true) (hmx : n + m ≤ 1000000) (hb : bytes ≤ 1000) (hbase : base ≤ w.heap.size)
    (h : ∀ v' w', w'.ownsRow base e size v' (n + m) (xs ++ news) → Only v.ownBlock.toList w w' → (v'.ownBlock = v.ownBlock ∨ v'.ownBlock = some w.heap.size) → K (a.put o.dst v') w') :
    if Region.wanted o (yielded ops a.tmps) = true then Oper.wp P o a w K Q else E := by
  obtain ⟨v', w', hr, k1, k2, k3⟩ := xe_app_any (P := P) (ρ := a.eval) (w := w) ho ht hi hzs hsz hs hown hx news hl hnews h1 hmx hb hbase
  exact step_run hgd hr (h v' w' k1 k2 k3)
theorem wpList_app {rest : List Oper} {s x : Operand} {t e base : Nat} {z : Value} {size bytes : Nat} (hgd : o.guard = none) (ho : o.op = .call { callee := .builtin .append, args := #[s, x], argTypes := #[t, t] }) (ht : P.underlying t = some (.slice e)) (hi : (P.info? e).map (fun i => (i.zero, i.size, i.bytes)) = some (some z, size, bytes)) (hzs : z.cells.size = size) (hsz : 0 < size)
    {v : Value} {n : Nat} {xs : List Value} {A : Option Addr} {m c : Nat} (news : List Value) (hs : a.eval s = v) (hown : w.ownsRow base e size v n xs) (hx : a.eval x = .slice A m c) (hl : news.length = m * size) (hnews : 0 < m → ∃ g off, A = some ⟨g, off, none⟩ ∧ ∀ (j : Nat) u, news[j]? = some u → w.cell? ⟨g, off + j, none⟩ = some u) (h1 : ∀ u ∈ news, u.oneCell' = true) (hmx : n + m ≤ 1000000) (hb : bytes ≤ 1000) (hbase : base ≤ w.heap.size)
    (h : ∀ v' w', w'.ownsRow base e size v' (n + m) (xs ++ news) → Only v.ownBlock.toList w w' → (v'.ownBlock = v.ownBlock ∨ v'.ownBlock = some w.heap.size) → wpList P ops Q rest (a.put o.dst v') w') : wpList P ops Q (o :: rest) a w := by
  obtain ⟨v', w', hr, k1, k2, k3⟩ := xe_app_any (P := P) (ρ := a.eval) (w := w) ho ht hi hzs hsz hs hown hx news hl hnews h1 hmx hb hbase
  exact wpList_run hgd hr (h v' w' k1 k2 k3)
end
theorem addr_zero (a : Addr) : a.add 0 = a := by
  obtain ⟨b, o, s⟩ := a
  unfold Addr.add
  split <;> simp_all
section
variable {P : Program} {ρ : Operand → Value} {o : Oper} {w : World}
/-- A slice type whose element's size is known. -/
def subT (P : Program) (t : TypeId) : Bool := match P.underlying t with
  | some (.slice e) => (P.elem t == e) && (P.info? e).isSome
  | _ => false
/-- 'x[:k]'. -/
theorem x_sub_h {t : TypeId} {x k : Operand} {A : Option Addr} {n c : Nat} {z : Int} (ho : o.op = .slice t x none (some k) none) (ht : subT P t = true) (hx : ρ x = .slice A n c) (hk : ρ k = .int .i64 z) (h0 : 0 ≤ z) (h1 : z ≤ c) : (execOp ρ o).run P w = .ok (.value (.slice A z.toNat c)) w := by
  unfold subT at ht
  split at ht
  · rename_i e hu
    rw [Bool.and_eq_true, beq_iff_eq] at ht
    obtain ⟨he, hi⟩ := ht
    subst he
    obtain ⟨i, hi⟩ := Option.isSome_iff_exists.1 hi
    unfold execOp
    rw [ho]
    simp only [hx, hk, Option.map_some, Option.map_none]
    have hs := run_sliceAt_slice (P := P) w t (.slice A n c) none (some (.int .i64 z)) none hu
    have hh := run_slice_h (P := P) w t A n c hu .i64 z h0 h1
    simp only [Sem.run_bind, hs, hh]
    simp [sizeOf, typeInfo, run_program, hi, sliced, Result.andThen]
    cases A with
    | none => exact fun _ => rfl
    | some a => exact fun _ => congrArg some (addr_zero a)
  · cases ht
theorem x_min2 {t : TypeId} {x k : Operand} {a b : Int} (ho : o.op = .call { callee := .builtin .min, args := #[x, k], argTypes := #[t, t] }) (hx : ρ x = .int .i64 a) (hk : ρ k = .int .i64 b) : (execOp ρ o).run P w = .ok (.value (.int .i64 (min a b))) w := by
  unfold execOp resolve
  rw [ho]
  simp only [Sem.run_bind, Sem.run_pure, Result.andThen_ok]
  have : (if b < a then b else a) = min a b := by
    rw [Int.min_def]
    split <;> split <;> omega
  simp [invoke, builtin, Builtin.min_, Builtin.min2, hx, hk, this]
end
theorem only_cell {S : List Nat} {w w' : World} (h : Only S w w') {g o : Nat} {u : Value} (hc : w.cell? ⟨g, o, none⟩ = some u) (hg : g ∉ S) : w'.cell? ⟨g, o, none⟩ = some u := by
  rw [← hc]
  unfold World.cell?
  rw [show (⟨g, o, none⟩ : Addr).block = g from rfl, h.block g (World.block_lt_of_cell? w _ hc) hg]
theorem own_far {w : World} {N e s n : Nat} {v : Value} {xs : List Value} (h : w.ownsRow N e s v n xs) {g : Nat} (hg : g < N) : g ∉ v.ownBlock.toList := by
  intro hm
  have := (h.lt g (by simpa using hm)).1
  omega
theorem pairs_4 {ρ : Operand → Value} {x0 x1 x2 x3 : Operand} {y0 y1 y2 y3 : Value} {k0 k1 k2 k3 : Nat} (h0 : ρ x0 = y0) (h1 : ρ x1 = y1) (h2 : ρ x2 = y2) (h3 : ρ x3 = y3) : (#[(k0, x0), (k1, x1), (k2, x2), (k3, x3)] : Array (Nat × Operand)).map (fun (i, x) => (i, ρ x)) = #[(k0, y0), (k1, y1), (k2, y2), (k3, y3)] := by simp [h0, h1, h2, h3]
/-- A row of nothing in a block of its own. -/
theorem own_made {w : World} {N p e size : Nat} (h : Blk w p e []) (hp : N ≤ p) : w.ownsRow N e size (.slice (some ⟨p, 0, none⟩) 0 0) 0 [] := ⟨by simp, .inr ⟨p, 0, #[], rfl, hp, by simpa [Blk] using h, Nat.le_refl _, by decide, by simp, by simp⟩⟩
theorem own_new (w : World) (e size : Nat) : (w.alloc (.cells #[] e)).ownsRow w.heap.size e size (.slice (some ⟨w.heap.size, 0, none⟩) 0 0) 0 [] := own_made (Blk.new w e []) (Nat.le_refl _)
/-- 'append([]T{}, x..)', of however many. -/
theorem xe_app_zero {P : Program} {ρ : Operand → Value} {o : Oper} {w : World} {s x : Operand} {t e N : Nat} {z : Value} {size bytes : Nat} (ho : o.op = .call { callee := .builtin .append, args := #[s, x], argTypes := #[t, t] }) (ht : P.underlying t = some (.slice e)) (hi : (P.info? e).map (fun i => (i.zero, i.size, i.bytes)) = some (some z, size, bytes)) (hzs : z.cells.size = size) (hsz : 0 < size)
    {p : Nat} (hs : ρ s = .slice (some ⟨p, 0, none⟩) 0 0) (hp : N ≤ p) (hk : Blk w p e []) {A : Option Addr} {m c : Nat} (hx : ρ x = .slice A m c) (news : List Value) (hl : news.length = m * size) (hnews : 0 < m → ∃ g off, A = some ⟨g, off, none⟩ ∧ ∀ (j : Nat) u, news[j]? = some u → w.cell? ⟨g, off + j, none⟩ = some u) (h1 : ∀ u ∈ news, u.oneCell' = true) (hmx : m ≤ 1000000) (hb : bytes ≤ 1000) (hN : N ≤ w.heap.size) :
    ∃ R c' w', (execOp ρ o).run P w = .ok (.value (.slice R m c')) w' ∧ w'.ownsRow N e size (.slice R m c') m news ∧ Below w.heap.size w w' := by
  rcases Nat.eq_zero_or_pos m with hm | hm
  · subst hm
    have hn : news = [] := List.eq_nil_of_length_eq_zero (by omega)
    subst hn
    obtain ⟨i, i1, i2, i3, i4⟩ := info_parts hi
    exact ⟨_, _, w, x_app_none (S := A) (c := c) ho ht i1 hs hx, own_made hk hp, Below.refl _ _⟩
  · obtain ⟨g, off, rfl, hc⟩ := hnews hm
    obtain ⟨i, i1, i2, i3, i4⟩ := info_parts hi
    subst i3
    have hown : w.ownsRow N e i.size (.slice (some ⟨p, 0, none⟩) 0 0) 0 [] := own_made hk hp
    obtain ⟨cap, es, hr, h2, h3⟩ := x_app_new (P := P) (ρ := ρ) (w := w) ho ht hi hs hx news hl hc h1 hm hmx hb
    obtain ⟨y, w', hr', g', cap', rfl, k1, k2, k3⟩ := xe_app_own (P := P) (ρ := ρ) (w := w) (G := fun y w' => ∃ g' cap, y = .slice (some ⟨g', 0, none⟩) (0 + m) cap ∧ w'.ownsRow N e i.size (.slice (some ⟨g', 0, none⟩) (0 + m) cap) (0 + m) ([] ++ news) ∧ Only (Value.slice (some ⟨p, 0, none⟩) 0 0).ownBlock.toList w w' ∧ ((Value.slice (some ⟨p, 0, none⟩) 0 0).ownBlock = some g' ∨ g' = w.heap.size)) ho ht hi hzs hsz hs hown hx news hl hc h1 hm (by omega) hb hN (fun g' cap w' k1 k2 k3 => ⟨g', cap, rfl, k1, k2, k3⟩)
    rw [hr] at hr'
    injection hr' with e1 e2
    injection e1 with e1
    injection e1 with e3 e4 e5
    subst e2 e5
    injection e3 with e3
    injection e3 with e3
    subst e3
    rw [Nat.zero_add, List.nil_append] at k1
    exact ⟨_, _, _, hr, k1, drew_alloc_below w _⟩
theorem xe_app_zeroG {P : Program} {ρ : Operand → Value} {o : Oper} {w : World} {G : Value → World → Prop} {s x : Operand} {t e N : Nat} {z : Value} {size bytes : Nat} (ho : o.op = .call { callee := .builtin .append, args := #[s, x], argTypes := #[t, t] }) (ht : P.underlying t = some (.slice e)) (hi : (P.info? e).map (fun i => (i.zero, i.size, i.bytes)) = some (some z, size, bytes)) (hzs : z.cells.size = size) (hsz : 0 < size)
    {p : Nat} (hs : ρ s = .slice (some ⟨p, 0, none⟩) 0 0) (hp : N ≤ p) (hk : Blk w p e []) {A : Option Addr} {m c : Nat} (hx : ρ x = .slice A m c) (news : List Value) (hl : news.length = m * size) (hnews : 0 < m → ∃ g off, A = some ⟨g, off, none⟩ ∧ ∀ (j : Nat) u, news[j]? = some u → w.cell? ⟨g, off + j, none⟩ = some u) (h1 : ∀ u ∈ news, u.oneCell' = true) (hmx : m ≤ 1000000) (hb : bytes ≤ 1000) (hN : N ≤ w.heap.size)
    (hG : ∀ R c' w', w'.ownsRow N e size (.slice R m c') m news → Below w.heap.size w w' → G (.slice R m c') w') : ∃ y w', (execOp ρ o).run P w = .ok (.value y) w' ∧ G y w' := by
  obtain ⟨R, c', w', hr, k1, k2⟩ := xe_app_zero ho ht hi hzs hsz hs hp hk hx news hl hnews h1 hmx hb hN
  exact ⟨_, w', hr, hG R c' w' k1 k2⟩
/-- A row of one's own, with its form. -/
def ownSV (N e size m : Nat) (cs : List Value) : Value → World → Prop := fun u w => ∃ R c, u = .slice R m c ∧ w.ownsRow N e size (.slice R m c) m cs
theorem ownSV.st (N e size m : Nat) (cs : List Value) : StV (ownSV N e size m cs) := fun _ _ _ ⟨R, c, h1, h2⟩ hb => ⟨R, c, h1, ownsRow_only (S := []) h2 (Only.of_below hb) (by simp)⟩
end Go.Proofs.Ytammomjnigalbaa
