/-
  nodes: its parts: nodes put behind nodes; what it leaves; a round. Conditions: those in each.
-/
import Derived.Test.YtodpojbgkeecnaaDoorCNodeSpec
import Derived.Deep.RegionHeld3
import Derived.Deep.AppendLies
import Derived.Deep.RegionLaw
set_option linter.unusedSimpArgs false
set_option linter.unusedVariables false
namespace Go.Proofs.YtodpojbgkeecnaaDoor
open Go.RowKit

theorem NRow.one {w : World} {Q : Nat → Prop} : ∀ {ns : List Nd} {xs : List Value}, NRow w Q ns xs → ∀ u ∈ xs, u.oneCell' = true
  | [], xs, h, u, hu => by rw [NRow] at h; subst h; cases hu
  | d :: r, xs, h, u, hu => by
    obtain ⟨c0, c1, c2, c3, ys, rfl, ⟨e0, e1, ⟨A, n, c, e2, _⟩, A', n', c', e3, _⟩, hr⟩ := h
    subst e0 e1 e2 e3
    simp only [List.mem_cons] at hu
    rcases hu with rfl | rfl | rfl | rfl | hu
    · rfl
    · rfl
    · rfl
    · rfl
    · exact NRow.one hr u hu
theorem run_append_nodes (w : World) (base : Nat) (v : Value) (n : Nat) (xs : List Value) (hown : w.ownsRow base 61 4 v n xs) (A : Option Addr) (m c : Nat) (ms : List Nd) (ys : List Value) (Q : Nat → Prop) (hN : NIn w Q A m c ms ys) (hsm : n + m ≤ 1000000) (hbase : base ≤ w.heap.size) (ty : TypeId) :
    ∃ v' w', (Builtin.append_ #[36, 36] ty #[v, .slice A m c]).run Tryd.prog w = .ok v' w' ∧ w'.ownsRow base 61 4 v' (n + m) (xs ++ ys) ∧ w.grownBy w' v.ownBlock ∧ (v'.ownBlock = v.ownBlock ∨ v'.ownBlock = some w.heap.size) := by
  obtain ⟨i0, hi, hz0, hz1, hz2⟩ := info_parts ninfo
  cases A with
  | none =>
    obtain ⟨rfl, rfl⟩ := hN.nil rfl
    have hms : ms = [] := List.eq_nil_of_length_eq_zero hN.len
    subst hms
    have hys : ys = [] := hN.row
    subst hys
    exact ⟨v, w, run_append_owned_none (P := Tryd.prog) (w := w) base 36 ty 61 i0 4 Tryd.underlying36 hi v n xs hown, by simpa using hown, grown_refl _ _, .inl rfl⟩
  | some ad =>
    have hl : ys.length = m * 4 := by have := hN.row.length; have := hN.len; omega
    refine run_append_new (P := Tryd.prog) w base 36 ty 61 i0 (.agg #[.int .i64 0, .int .i64 0, .slice none 0 0, .slice none 0 0]) 4 64 Tryd.underlying36 hi hz0 hz1 hz2 rfl (by decide) v n xs hown ad m c ys hl (fun j u hu => ?_) hN.row.one (by unfold maxLen; omega) (by omega) hbase
    have hj := (List.getElem?_eq_some_iff.1 hu).1
    obtain ⟨g, o, e, _, _, hc⟩ := hN.cells (by omega)
    rw [Option.some.inj e, add_off]
    exact hc j u hu
theorem step_append_nodes {w : World} {ops : Array Oper} {o : Oper} {a : Act} {K : Act → World → Prop} {Q : Exit → Act → World → Prop} {E : Prop} (hgd : o.guard = none) (s x : Operand)
    (ho : o.op = .call { callee := .builtin .append, args := #[s, x], argTypes := #[36, 36] })
    (base : Nat) (v : Value) (n : Nat) (xs : List Value) (hs : a.eval s = v) (hown : w.ownsRow base 61 4 v n xs)
    (A : Option Addr) (m c : Nat) (ms : List Nd) (ys : List Value) (R : Nat → Prop) (hx : a.eval x = .slice A m c) (hN : NIn w R A m c ms ys) (hsm : n + m ≤ 1000000) (hbase : base ≤ w.heap.size)
    (h : ∀ v' w', w'.ownsRow base 61 4 v' (n + m) (xs ++ ys) → w.grownBy w' v.ownBlock → (v'.ownBlock = v.ownBlock ∨ v'.ownBlock = some w.heap.size) → K (a.put o.dst v') w') :
    if Region.wanted o (yielded ops a.tmps) = true then Oper.wp Tryd.prog o a w K Q else E := by
  have hw : Region.wanted o (yielded ops a.tmps) = true := by simp [Region.wanted, hgd]
  rw [if_pos hw]
  obtain ⟨v', w', hr, h1, h2, h3⟩ := run_append_nodes w base v n xs hown A m c ms ys R hN hsm hbase o.type
  unfold Oper.wp execOp
  simp only [ho, resolve, invoke, builtin, Sem.run_bind, Sem.run_pure, Result.andThen_ok, List.map_toArray, List.map_cons, List.map_nil, hs, hx, hr]
  exact h v' w' h1 h2 h3

theorem step_append_nodes43 {gN : Nat} {w : World} {ops : Array Oper} {o : Oper} {a : Act} {K : Act → World → Prop} {Q : Exit → Act → World → Prop} {E : Prop} (h43 : a.eval (.tmp 43) = .slice (some ⟨gN, 0, none⟩) 1 1) (hgd : o.guard = none) (s x : Operand)
    (ho : o.op = .call { callee := .builtin .append, args := #[s, x], argTypes := #[36, 36] })
    (base : Nat) (v : Value) (n : Nat) (xs : List Value) (hs : a.eval s = v) (hown : w.ownsRow base 61 4 v n xs)
    (A : Option Addr) (m c : Nat) (ms : List Nd) (ys : List Value) (R : Nat → Prop) (hx : a.eval x = .slice A m c) (hN : NIn w R A m c ms ys) (hsm : n + m ≤ 1000000) (hbase : base ≤ w.heap.size)
    (h : ∀ v' w', w'.ownsRow base 61 4 v' (n + m) (xs ++ ys) → w.grownBy w' v.ownBlock → (v'.ownBlock = v.ownBlock ∨ v'.ownBlock = some w.heap.size) → K (a.put o.dst v') w') :
    if Region.wanted o (yielded ops a.tmps) = true then Oper.wp Tryd.prog o a w K Q else E :=
  step_append_nodes hgd s x ho base v n xs hs hown A m c ms ys R hx hN hsm hbase h

/-- What nodes leaves. -/
def NodesPost (t : T) (ns : List Nd) (Q : Nat → Prop) (w : World) (e : Ending) (w' : World) : Prop := ∃ A' m' c' xs', e = .returned (.tuple #[.slice A' m' c', .int .i64 ((m' : Int) - 1)]) ∧ NIn w' (fun g => Q g ∨ w.heap.size ≤ g) A' m' c' (ns ++ t.flat ns.length) xs' ∧ Below w.heap.size w w'
/-- What nodes says of a value. -/
def NodesSays (t : T) : Prop := ∀ (w : World) (Q : Nat → Prop) (v : Value), In w Q t v → ∀ (A : Option Addr) (n c : Nat) (ns : List Nd) (xs : List Value), NIn w Q A n c ns xs → n + t.enc.length ≤ 400000 →
  Calls Tryd.prog 12 #[.slice A n c, v] w (NodesPost t ns Q w)
/-- The blocks of what nodes has: those that came in, and new ones, but for the one that is written. -/
def QV (N : Nat) (Q : Nat → Prop) (v : Value) (g : Nat) : Prop := (Q g ∧ g < N) ∨ (N < g ∧ v.ownBlock ≠ some g)
/-- Where its loop stands. -/
def MRel (w0 : World) (Q : Nat → Prop) (W : World) (ns : List Nd) (l : List T) (v0 v6 v7 : Value) (wr : World) : Prop := ∃ (k : Nat) (A : Option Addr) (m c : Nat) (ms : List Nd) (xs : List Value) (ps : List Value), k ≤ l.length ∧ v7 = .int .i64 k ∧ ms = ns ++ (T.flatAll (l.take k) ns.length).1 ∧ ps = (T.flatAll (l.take k) ns.length).2.map (Value.int .i64) ∧ v0 = .slice A m c ∧
  NIn wr (QV w0.heap.size Q v6) A m c ms xs ∧ wr.ownsRow (w0.heap.size + 1) 3 1 v6 k ps ∧ Below (w0.heap.size + 1) W wr
theorem T.anyAll_take_no : ∀ (l : List T) (k : Nat), T.anyAll l = false → T.anyAll (l.take k) = false
  | [], k, _ => by rw [List.take_nil]; rfl
  | t :: r, 0, _ => rfl
  | t :: r, k + 1, h => by
    rw [T.anyAll, Bool.or_eq_false_iff] at h
    rw [List.take_succ_cons, T.anyAll, h.1, T.anyAll_take_no r k h.2]
    rfl
/-- Behind a round. -/
theorem mRel_step {w0 W wr w5 w6 : World} {Q : Nat → Prop} {ns ms : List Nd} {l : List T} {t : T} {k m5 c5 gg cap : Nat} {A5 : Option Addr} {xs5 ps : List Value} {v : Value} {o : Obj} (htk : l[k]? = some t) (hms : ms = ns ++ (T.flatAll (l.take k) ns.length).1) (hps : ps = (T.flatAll (l.take k) ns.length).2.map (Value.int .i64))
    (hv : wr.ownsRow (w0.heap.size + 1) 3 1 v k ps) (hN : NIn w5 (fun g => QV w0.heap.size Q v g ∨ wr.heap.size ≤ g) A5 m5 c5 (ms ++ t.flat ms.length) xs5)
    (ho : w6.ownsRow (w0.heap.size + 1) 3 1 (.slice (some ⟨gg, 0, none⟩) (k + 1) cap) (k + 1) (ps ++ [.int .i64 ((m5 : Int) - 1)])) (hg : (w5.alloc o).grownBy w6 v.ownBlock) (hat : v.ownBlock = some gg ∨ gg = (w5.alloc o).heap.size)
    (hb : Below (w0.heap.size + 1) W wr) (hb5 : Below wr.heap.size wr w5) (hs : w0.heap.size + 1 ≤ wr.heap.size) : MRel w0 Q W ns l (.slice A5 m5 c5) (.slice (some ⟨gg, 0, none⟩) (k + 1) cap) (.int .i64 ((k : Int) + 1)) w6 := by
  have hlt := (List.getElem?_eq_some_iff.1 htk).1
  have hlen : ms.length = ns.length + (T.flatAll (l.take k) ns.length).1.length := by rw [hms, List.length_append]
  have hm5 : m5 = ns.length + (T.flatAll (l.take k) ns.length).1.length + (t.flat (ns.length + (T.flatAll (l.take k) ns.length).1.length)).length := by
    have := hN.len
    rw [List.length_append, hlen] at this
    omega
  have hvlt := hv.lt
  have hsz := hg.size
  simp only [World.size_alloc] at hsz hat
  have hb5s := hb5.size
  refine ⟨k + 1, A5, m5, c5, _, xs5, _, by omega, rfl, rfl, rfl, rfl, ?_, ?_, (hb.trans (hb5.mono hs)).trans (((Below.refl _ w5).alloc (by omega) o).grown hg (by simp; omega) fun g hgv => (hvlt g hgv).1)⟩
  · rw [flatAll_take htk, ← List.append_assoc, ← hms, ← hlen]
    refine hN.keep (by omega) fun g hq hlt => ?_
    have hne : v.ownBlock ≠ some g := by
      intro e
      have h1 := hvlt g e
      rcases hq with (⟨_, h2⟩ | ⟨_, h2⟩) | h2
      · omega
      · exact h2 e
      · omega
    refine ⟨(hg.block g (by simp; omega) (fun e => hne e.symm)).trans (Below.heap_alloc w5 o g hlt), ?_⟩
    have hne2 : (Value.slice (some ⟨gg, 0, none⟩) (k + 1) cap).ownBlock ≠ some g := by
      intro e
      simp only [Value.ownBlock, Option.some.injEq] at e
      subst e
      rcases hat with h | h
      · exact hne h
      · omega
    rcases hq with (h | ⟨h, _⟩) | h
    · exact .inl h
    · exact .inr ⟨h, hne2⟩
    · exact .inr ⟨by omega, hne2⟩
  · rw [flatAll_take htk, List.map_append, ← hps]
    simpa [hm5] using ho
theorem empty_row {W : World} {B g : Nat} (h : W.heap[g]? = some (.cells #[] 61 (0, 0))) (hB : B ≤ g) : W.ownsRow B 61 4 (.slice (some ⟨g, 0, none⟩) 0 0) 0 [] :=
  ⟨rfl, .inr ⟨g, 0, #[], rfl, hB, h, Nat.le_refl _, Nat.zero_le _, rfl, rfl⟩⟩
theorem one_nin {W : World} {Q : Nat → Prop} {g : Nat} {d : Nd} {c0 c1 c2 c3 : Value} (h : Blk W g 61 [c0, c1, c2, c3]) (hq : Q g) (hd : NdIn W Q d c0 c1 c2 c3) : NIn W Q (some ⟨g, 0, none⟩) 1 1 [d] [c0, c1, c2, c3] :=
  ⟨rfl, Nat.le_refl _, (fun h => by cases h), fun _ => ⟨g, 0, rfl, h.lt, hq, fun j u hu => by rw [Nat.zero_add]; exact (h.cell j).trans hu⟩, ⟨c0, c1, c2, c3, [], rfl, hd, rfl⟩⟩
theorem cell_on {w w' : World} {a : Addr} {u : Value} (hb : Below w.heap.size w w') (h : w.cell? a = some u) : w'.cell? a = some u := (hb.cell (World.block_lt_of_cell? w _ h)).trans h
theorem grown_on {wr W w7 : World} {gE : Nat} (hb : Below wr.heap.size wr W) (hg : W.grownBy w7 (some gE)) (hge : wr.heap.size ≤ gE) : Below wr.heap.size wr w7 := hb.grown hg hb.size fun k hk => by injection hk with hk; omega
theorem own_later {wr W : World} {v : Value} {gE : Nat} (hat : v.ownBlock = some gE ∨ v.ownBlock = some W.heap.size) (hge : wr.heap.size ≤ gE) (hW : wr.heap.size ≤ W.heap.size) : ∀ k, v.ownBlock = some k → wr.heap.size ≤ k := by
  intro k hk
  rcases hat with h | h
  · rw [hk] at h; injection h with h; omega
  · rw [hk] at h; injection h with h; omega
theorem NdIn.below {w w' : World} {Q : Nat → Prop} {d : Nd} {c0 c1 c2 c3 : Value} (h : NdIn w Q d c0 c1 c2 c3) (hb : Below w.heap.size w w') : NdIn w' Q d c0 c1 c2 c3 := h.keep hb.size fun g hq hg => ⟨hb.block g hg, hq⟩
theorem one_int_new (w : World) (x : Int) : ∀ j u, [Value.int .i64 x][j]? = some u → (w.alloc (.cells #[.int .i64 x] 3)).cell? ((⟨w.heap.size, 0, none⟩ : Addr).add j) = some u := by
  intro j u hu
  have hb := Blk.new w 3 [.int .i64 x]
  rw [add_off, Nat.zero_add]
  exact (hb.cell j).trans hu

theorem flat_pos (t : T) (o : Nat) : 1 ≤ (t.flat o).length := by
  obtain ⟨k, n, b, l⟩ := t
  rw [T.flat]
  simp
theorem flatAll_range : ∀ (l : List T) (o : Nat), ∀ x ∈ (T.flatAll l o).2, 0 ≤ x ∧ x < (o : Int) + ((T.flatAll l o).1.length : Int)
  | [], o, x, hx => by simp [T.flatAll] at hx
  | t :: r, o, x, hx => by
    have hp := flat_pos t o
    rw [T.flatAll] at hx ⊢
    simp only [List.mem_cons] at hx
    simp only [List.length_append]
    rcases hx with rfl | hx
    · omega
    · have := flatAll_range r (o + (t.flat o).length) x hx
      omega
/-- Where nodes ends. -/
theorem nodes_end {w wr w8 : World} {Q : Nat → Prop} {kd nn : Int} {b : List UInt8} {l : List T} {ns ms : List Nd} {m1 c1 c8 : Nat} {A1 A8 : Option Addr} {xs1 : List Value} {v6 c2' c3' : Value} (ho8 : w8.ownsRow (w.heap.size + 1) 61 4 (.slice A8 (m1 + 1) c8) (m1 + 1) (xs1 ++ [.int .i64 kd, .int .i64 nn, c2', c3'])) (hb8 : Below wr.heap.size wr w8) (bw : Below w.heap.size w wr) (hN1 : NIn wr (QV w.heap.size Q v6) A1 m1 c1 ms xs1) (hms : ms = ns ++ (T.flatAll l ns.length).1)
    (hnd : NdIn wr (fun g => Q g ∨ w.heap.size ≤ g) ⟨kd, nn, b, (T.flatAll l ns.length).2⟩ (.int .i64 kd) (.int .i64 nn) c2' c3') : NodesPost (.mk kd nn b l) ns Q w (.returned (.tuple #[.slice A8 (m1 + 1) c8, .int .i64 (m1 : Int)])) w8 := by
  have hrow := (hN1.row.keep (w' := w8) (Q' := fun g => Q g ∨ w.heap.size ≤ g) hb8.size fun g hq hg => ⟨hb8.block g hg, by
    rcases hq with h | h
    · exact .inl h.1
    · exact .inr (Nat.le_of_lt h.1)⟩).snoc (hnd.below hb8)
  obtain ⟨A, c, e, hN⟩ := own_nin ho8 (by rw [List.length_append, hN1.len]; rfl) hrow fun g hg => .inr (by omega)
  cases e
  refine ⟨A8, m1 + 1, c8, xs1 ++ [.int .i64 kd, .int .i64 nn, c2', c3'], ?_, ?_, bw.trans (hb8.mono bw.size)⟩
  · have : (((m1 + 1 : Nat) : Int) - 1) = (m1 : Int) := by omega
    rw [this]
  · rw [T.flat, ← List.append_assoc, ← hms]
    exact hN

end Go.Proofs.YtodpojbgkeecnaaDoor
