/-
  The lists that are open, in memory: a stack of values, each with a row of its own. Plain definitions and theorems; conditions: those in each.
-/
import Derived.Test.YtodpojbgkeecnaaDoorCBuildSpec
set_option linter.unusedSimpArgs false
set_option linter.unusedVariables false
namespace Go.Proofs.YtodpojbgkeecnaaDoor
open Go.RowKit

/-- An open list: its slice, its values, their cells. -/
structure Fr where
  v : Value
  l : List T
  xs : List Value
def cellsOf (fs : List Fr) : List Value := fs.flatMap fun f => [.int .i64 2, .int .i64 0, .slice none 0 0, f.v]
/-- Blocks that are still written. -/
def Live (v : Value) (fs : List Fr) (g : Nat) : Prop := v.ownBlock = some g ∨ ∃ f ∈ fs, f.v.ownBlock = some g
structure Stack (w : World) (B : Nat) (v : Value) (fs : List Fr) : Prop where
  row : w.ownsRow B 26 4 v fs.length (cellsOf fs)
  each : ∀ f ∈ fs, w.ownsRow B 26 4 f.v f.l.length f.xs ∧ Row w (fun g => B ≤ g ∧ ¬ Live v fs g) f.l f.xs
  apart : ∀ f ∈ fs, f.v.ownBlock = none ∨ f.v.ownBlock ≠ v.ownBlock
  dist : fs.Pairwise fun a b => a.v.ownBlock = none ∨ a.v.ownBlock ≠ b.v.ownBlock

theorem cellsOf_length (fs : List Fr) : (cellsOf fs).length = fs.length * 4 := by
  induction fs with
  | nil => rfl
  | cons f r ih =>
    have : cellsOf (f :: r) = [.int .i64 2, .int .i64 0, .slice none 0 0, f.v] ++ cellsOf r := by simp [cellsOf]
    rw [this, List.length_append, ih]
    simp
    omega
theorem cellsOf_snoc (fs : List Fr) (f : Fr) : cellsOf (fs ++ [f]) = cellsOf fs ++ [.int .i64 2, .int .i64 0, .slice none 0 0, f.v] := by simp [cellsOf]
theorem ownsRow_keep {w w' : World} {B : Nat} {e : TypeId} {size n : Nat} {v : Value} {xs : List Value} (h : w.ownsRow B e size v n xs) (hk : ∀ g, v.ownBlock = some g → w'.heap[g]? = w.heap[g]?) : w'.ownsRow B e size v n xs := by
  refine ⟨h.1, ?_⟩
  rcases h.2 with hn | ⟨g, cap, cur, rfl, hb, hg, rest⟩
  · exact .inl hn
  · exact .inr ⟨g, cap, cur, rfl, hb, by rw [hk g rfl]; exact hg, rest⟩
theorem ownsRow_set {w : World} {B : Nat} {e : TypeId} {size n : Nat} {v : Value} {xs : List Value} (h : w.ownsRow B e size v n xs) {g j : Nat} (hg : v.ownBlock = some g) (hj : j < xs.length) (u : Value) : (w.setCell ⟨g, j, none⟩ u).ownsRow B e size v n (xs.set j u) := by
  refine ⟨by rw [List.length_set]; exact h.1, ?_⟩
  rcases h.2 with ⟨rfl, _⟩ | ⟨g', cap, cur, rfl, hb, hh, hnc, hcm, hcs, ht⟩
  · simp [Value.ownBlock] at hg
  · have : g' = g := by simpa [Value.ownBlock] using hg
    subst this
    refine .inr ⟨g', cap, cur.setIfInBounds j u, rfl, hb, ?_, hnc, hcm, by simpa using hcs, ?_⟩
    · simp [World.setCell, Array.getElem?_modify, hh]
    · rw [Array.toList_setIfInBounds, ← ht]
      have hjn : j < n * size := by have := h.1; omega
      rw [List.take_set]
theorem ownsRow_cell {w : World} {B : Nat} {e : TypeId} {size n : Nat} {v : Value} {xs : List Value} (h : w.ownsRow B e size v n xs) {g j : Nat} {u : Value} (hg : v.ownBlock = some g) (hj : xs[j]? = some u) : w.cell? ⟨g, j, none⟩ = some u := by
  have := h.cells hg j u hj
  rw [add_off, Nat.zero_add] at this
  exact this
theorem ownsRow_frozen {w : World} {B : Nat} {e : TypeId} {size n : Nat} {v : Value} {xs : List Value} (h : w.ownsRow B e size v n xs) {g : Nat} (hg : v.ownBlock = some g) (j : Nat) : w.frozen? ⟨g, j, none⟩ = false := by
  rcases h.2 with ⟨rfl, _⟩ | ⟨g', cap, cur, rfl, hb, hh, _⟩
  · simp [Value.ownBlock] at hg
  · have : g' = g := by simpa [Value.ownBlock] using hg
    subst this
    simp [World.frozen?, hh]

theorem Stack.keep {w w' : World} {B : Nat} {v : Value} {fs : List Fr} (h : Stack w B v fs) (hk : ∀ g, g < w.heap.size → w'.heap[g]? = w.heap[g]?) : Stack w' B v fs :=
  ⟨ownsRow_keep h.row fun g hg => hk g (h.row.lt g hg).2, fun f hf => ⟨ownsRow_keep (h.each f hf).1 fun g hg => hk g ((h.each f hf).1.lt g hg).2, Row.keep _ _ (h.each f hf).2 fun g hg hlt => ⟨hk g hlt, hg⟩⟩, h.apart, h.dist⟩
theorem Stack.below {w w' : World} {B : Nat} {v : Value} {fs : List Fr} (h : Stack w B v fs) (hb : Below w.heap.size w w') : Stack w' B v fs := h.keep fun g hg => hb.block g hg

/-- The stack's slice, where something is open. -/
theorem Stack.form {w : World} {B : Nat} {v : Value} {fs : List Fr} (h : Stack w B v fs) (hn : fs ≠ []) : ∃ g cap, v = .slice (some ⟨g, 0, none⟩) fs.length cap ∧ B ≤ g ∧ g < w.heap.size ∧ fs.length ≤ cap := by
  rcases h.row.2 with ⟨_, h0⟩ | ⟨g, cap, cur, hv, hb, hg, hnc, _⟩
  · exact absurd (List.eq_nil_of_length_eq_zero h0) hn
  · exact ⟨g, cap, hv, hb, (Array.getElem?_eq_some_iff.1 hg).1, hnc⟩
/-- The innermost list's cells. -/
theorem cellsOf_top (fs : List Fr) (f : Fr) : (cellsOf (fs ++ [f]))[fs.length * 4]? = some (.int .i64 2) ∧ (cellsOf (fs ++ [f]))[fs.length * 4 + 1]? = some (.int .i64 0) ∧ (cellsOf (fs ++ [f]))[fs.length * 4 + 2]? = some (.slice none 0 0) ∧ (cellsOf (fs ++ [f]))[fs.length * 4 + 3]? = some f.v := by
  have hl := cellsOf_length fs
  rw [cellsOf_snoc]
  refine ⟨?_, ?_, ?_, ?_⟩
  all_goals (rw [List.getElem?_append_right (by omega), hl]; simp)
theorem cellsOf_set (fs : List Fr) (f : Fr) (u : Value) (l : List T) (xs : List Value) : (cellsOf (fs ++ [f])).set (fs.length * 4 + 3) u = cellsOf (fs ++ [⟨u, l, xs⟩]) := by
  have hl := cellsOf_length fs
  rw [cellsOf_snoc, cellsOf_snoc, List.set_append_right _ _ (by omega), hl]
  simp

/-- Behind Of() that is put on the stack. -/
theorem push_frame {w w4 : World} {B : Nat} {v v4 : Value} {fs : List Fr} {o : Obj} (h : Stack w B v fs) (hB : B ≤ w.heap.size)
    (ho4 : w4.ownsRow B 26 4 v4 (fs.length + 1) (cellsOf fs ++ [.int .i64 2, .int .i64 0, .slice none 0 0, .slice none 0 0])) (hg4 : (w.alloc o).grownBy w4 v.ownBlock) (hn4 : v4.ownBlock = v.ownBlock ∨ v4.ownBlock = some (w.alloc o).heap.size) :
    Stack w4 B v4 (fs ++ [⟨.slice none 0 0, [], []⟩]) ∧ Below B w w4 := by
  rw [World.size_alloc] at hn4
  have old : ∀ g, g < w.heap.size → v.ownBlock ≠ some g → w4.heap[g]? = w.heap[g]? := fun g hg hv => (hg4.block g (by simp; omega) (fun e => hv e.symm)).trans (Below.heap_alloc w o g hg)
  have hne4 : ∀ g, g < w.heap.size → v.ownBlock ≠ some g → v4.ownBlock ≠ some g := by
    intro g hg hv
    rcases hn4 with e | e
    · rw [e]; exact hv
    · rw [e]; intro e2; injection e2 with e2; omega
  have hlast : (Value.slice none 0 0).ownBlock = none := rfl
  have hfb : ∀ f ∈ fs, ∀ g, f.v.ownBlock = some g → v.ownBlock ≠ some g := by
    intro f hf g hg e
    rcases h.apart f hf with h1 | h1
    · rw [hg] at h1; cases h1
    · exact h1 (hg.trans e.symm)
  refine ⟨⟨by rw [cellsOf_snoc]; simpa using ho4, fun f hf => ?_, fun f hf => ?_, ?_⟩, ((below_new w o).mono hB).grown hg4 (by simp; omega) (own_ge h.row)⟩
  · rcases List.mem_append.1 hf with hf | hf
    · refine ⟨ownsRow_keep (h.each f hf).1 fun g hg => old g ((h.each f hf).1.lt g hg).2 (hfb f hf g hg), Row.keep _ _ (h.each f hf).2 fun g hg hlt => ⟨old g hlt fun e => hg.2 (.inl e), hg.1, ?_⟩⟩
      rintro (e | ⟨f', hf', e⟩)
      · exact hne4 g hlt (fun e2 => hg.2 (.inl e2)) e
      · rcases List.mem_append.1 hf' with hf' | hf'
        · exact hg.2 (.inr ⟨f', hf', e⟩)
        · simp only [List.mem_singleton] at hf'; subst hf'; cases e
    · simp only [List.mem_singleton] at hf
      subst hf
      exact ⟨World.ownsRow_nil _ _ _ _, Row.nil⟩
  · rcases List.mem_append.1 hf with hf | hf
    · cases hq : f.v.ownBlock with
      | none => exact .inl rfl
      | some g => exact .inr fun e => hne4 g ((h.each f hf).1.lt g hq).2 (hfb f hf g hq) e.symm
    · simp only [List.mem_singleton] at hf
      subst hf
      exact .inl rfl
  · rw [List.pairwise_append]
    refine ⟨h.dist, List.pairwise_singleton _ _, fun a ha b hb => ?_⟩
    simp only [List.mem_singleton] at hb
    subst hb
    cases hq : a.v.ownBlock with
    | none => exact .inl rfl
    | some g => exact .inr fun e => by cases e

/-- Behind a value that is put behind the innermost list's. -/
theorem push_core {w w6 : World} {B : Nat} {v v4 : Value} {fs : List Fr} {f : Fr} {t : T} {c0 c1 c2 c3 : Value} (h : Stack w B v (fs ++ [f])) (hin : In w (fun g => B ≤ g ∧ ¬ Live v (fs ++ [f]) g) t (.agg #[c0, c1, c2, c3]))
    (old : ∀ g, g < w.heap.size → v.ownBlock ≠ some g → f.v.ownBlock ≠ some g → w6.heap[g]? = w.heap[g]?) (hn4 : v4.ownBlock = f.v.ownBlock ∨ ∃ g, v4.ownBlock = some g ∧ w.heap.size ≤ g)
    (hrow : w6.ownsRow B 26 4 v4 (f.l.length + 1) (f.xs ++ [c0, c1, c2, c3])) (hst : w6.ownsRow B 26 4 v (fs.length + 1) (cellsOf (fs ++ [⟨v4, f.l ++ [t], f.xs ++ [c0, c1, c2, c3]⟩]))) :
    Stack w6 B v (fs ++ [⟨v4, f.l ++ [t], f.xs ++ [c0, c1, c2, c3]⟩]) := by
  have hfm : f ∈ fs ++ [f] := by simp
  have hne4 : ∀ g, g < w.heap.size → f.v.ownBlock ≠ some g → v4.ownBlock ≠ some g := by
    intro g hg hv
    rcases hn4 with e | ⟨g', e, hg'⟩
    · rw [e]; exact hv
    · rw [e]; intro e2; injection e2 with e2; omega
  have hav : ∀ g, (B ≤ g ∧ ¬ Live v (fs ++ [f]) g) → g < w.heap.size → w6.heap[g]? = w.heap[g]? ∧ (B ≤ g ∧ ¬ Live v (fs ++ [⟨v4, f.l ++ [t], f.xs ++ [c0, c1, c2, c3]⟩]) g) := by
    intro g hg hlt
    have hf : f.v.ownBlock ≠ some g := fun e => hg.2 (.inr ⟨f, hfm, e⟩)
    refine ⟨old g hlt (fun e => hg.2 (.inl e)) hf, hg.1, ?_⟩
    rintro (e | ⟨f', hf', e⟩)
    · exact hg.2 (.inl e)
    · rcases List.mem_append.1 hf' with hf' | hf'
      · exact hg.2 (.inr ⟨f', by simp [hf'], e⟩)
      · simp only [List.mem_singleton] at hf'
        subst hf'
        exact hne4 g hlt hf e
  have hd := List.pairwise_append.1 h.dist
  refine ⟨by simpa using hst, fun f' hf' => ?_, fun f' hf' => ?_, ?_⟩
  · rcases List.mem_append.1 hf' with hf' | hf'
    · have hm : f' ∈ fs ++ [f] := by simp [hf']
      refine ⟨ownsRow_keep (h.each f' hm).1 fun g hg => old g ((h.each f' hm).1.lt g hg).2 ?_ ?_, Row.keep _ _ (h.each f' hm).2 hav⟩
      · intro e
        rcases h.apart f' hm with h1 | h1
        · rw [hg] at h1; cases h1
        · exact h1 (hg.trans e.symm)
      · intro e
        rcases hd.2.2 f' hf' f (by simp) with h1 | h1
        · rw [hg] at h1; cases h1
        · exact h1 (hg.trans e.symm)
    · simp only [List.mem_singleton] at hf'
      subst hf'
      refine ⟨by simpa using hrow, ?_⟩
      exact (Row.keep _ _ (h.each f hfm).2 hav).snoc (hin.keep _ _ hav)
  · rcases List.mem_append.1 hf' with hf' | hf'
    · exact h.apart f' (by simp [hf'])
    · simp only [List.mem_singleton] at hf'
      subst hf'
      rcases hn4 with e | ⟨g, e, hg⟩
      · show v4.ownBlock = none ∨ v4.ownBlock ≠ v.ownBlock
        rw [e]; exact h.apart f hfm
      · refine .inr ?_
        show v4.ownBlock ≠ v.ownBlock
        rw [e]
        intro e2
        have := (h.row.lt g e2.symm).2
        omega
  · rw [List.pairwise_append]
    refine ⟨hd.1, List.pairwise_singleton _ _, fun a ha b hb => ?_⟩
    simp only [List.mem_singleton] at hb
    subst hb
    show a.v.ownBlock = none ∨ a.v.ownBlock ≠ v4.ownBlock
    rcases hn4 with e | ⟨g, e, hg⟩
    · rw [e]; exact hd.2.2 a ha f (by simp)
    · refine .inr ?_
      rw [e]
      intro e2
      have := ((h.each a (by simp [ha])).1.lt g e2).2
      omega

/-- The innermost list, taken for a value; the stack without it. -/
theorem Stack.pop {w : World} {B gs cs : Nat} {fs : List Fr} {f : Fr} (h : Stack w B (.slice (some ⟨gs, 0, none⟩) (fs.length + 1) cs) (fs ++ [f])) :
    Stack w B (.slice (some ⟨gs, 0, none⟩) fs.length cs) fs ∧ In w (fun g => B ≤ g ∧ ¬ Live (.slice (some ⟨gs, 0, none⟩) fs.length cs) fs g) (.mk 2 0 [] f.l) (.agg #[.int .i64 2, .int .i64 0, .slice none 0 0, f.v]) := by
  have hd := List.pairwise_append.1 h.dist
  have hlv : ∀ g, Live (.slice (some ⟨gs, 0, none⟩) fs.length cs) fs g → Live (.slice (some ⟨gs, 0, none⟩) (fs.length + 1) cs) (fs ++ [f]) g := by
    rintro g (e | ⟨f', hf', e⟩)
    · exact .inl e
    · exact .inr ⟨f', by simp [hf'], e⟩
  have hmono : ∀ g, (B ≤ g ∧ ¬ Live (.slice (some ⟨gs, 0, none⟩) (fs.length + 1) cs) (fs ++ [f]) g) → g < w.heap.size → w.heap[g]? = w.heap[g]? ∧ (B ≤ g ∧ ¬ Live (.slice (some ⟨gs, 0, none⟩) fs.length cs) fs g) := fun g hg _ => ⟨rfl, hg.1, fun e => hg.2 (hlv g e)⟩
  refine ⟨⟨?_, fun f' hf' => ⟨(h.each f' (by simp [hf'])).1, Row.keep _ _ (h.each f' (by simp [hf'])).2 hmono⟩, fun f' hf' => h.apart f' (by simp [hf']), hd.1⟩, ?_⟩
  · refine ⟨cellsOf_length fs, ?_⟩
    rcases h.row.2 with ⟨e, _⟩ | ⟨g, cap, cur, e, hb, hg, hnc, hcm, hcsz, ht⟩
    · cases e
    · simp only [List.length_append, List.length_cons, List.length_nil, Nat.zero_add, Value.slice.injEq, Option.some.injEq, Addr.mk.injEq, and_true, true_and] at e
      obtain ⟨rfl, rfl⟩ := e
      refine .inr ⟨gs, cs, cur, rfl, hb, hg, by simp at hnc; omega, hcm, hcsz, ?_⟩
      have hl := cellsOf_length fs
      rw [cellsOf_snoc] at ht
      have h1 : (cur.toList.take ((fs ++ [f]).length * 4)).take (fs.length * 4) = cur.toList.take (fs.length * 4) := by rw [List.take_take]; congr 1; simp
      rw [← h1, ht, List.take_append_of_le_length (by omega), List.take_of_length_le (by omega)]
  · obtain ⟨L, c, hv, hlin⟩ := own_lin (Q := fun g => B ≤ g ∧ ¬ Live (.slice (some ⟨gs, 0, none⟩) fs.length cs) fs g) (h.each f (by simp)).1 rfl (Row.keep _ _ (h.each f (by simp)).2 hmono) (fun g hg => by
      refine ⟨((h.each f (by simp)).1.lt g hg).1, ?_⟩
      rintro (e | ⟨f', hf', e⟩)
      · rcases h.apart f (by simp) with h1 | h1
        · rw [hg] at h1; cases h1
        · exact h1 (hg.trans e.symm)
      · rcases hd.2.2 f' hf' f (by simp) with h1 | h1
        · rw [e] at h1; cases h1
        · exact h1 (e.trans hg.symm))
    rw [hv]
    exact In.shut (BIn.none _ _) hlin


theorem pushTop_snoc : ∀ (ls : List (List T)) (l : List T) (t : T), pushTop (ls ++ [l]) t = ls ++ [l ++ [t]]
  | [], l, t => rfl
  | [a], l, t => rfl
  | a :: b :: r, l, t => by
    have ih := pushTop_snoc (b :: r) l t
    show a :: pushTop (b :: (r ++ [l])) t = _
    have ih : pushTop (b :: (r ++ [l])) t = b :: (r ++ [l ++ [t]]) := ih
    rw [ih]
    rfl
theorem popTop_snoc : ∀ (ls : List (List T)) (l m : List T), popTop (ls ++ [l, m]) = ls ++ [l ++ [.mk 2 0 [] m]]
  | [], l, m => rfl
  | [a], l, m => rfl
  | a :: b :: r, l, m => by
    have ih := popTop_snoc (b :: r) l m
    have e : ∀ (x : List T) (q : List (List T)), q ++ [l, m] = q ++ [l] ++ [m] := by simp
    have h3 : ∃ c d q, b :: (r ++ [l, m]) = c :: d :: q := by
      cases r with
      | nil => exact ⟨b, l, [m], rfl⟩
      | cons x r => exact ⟨b, x, r ++ [l, m], rfl⟩
    obtain ⟨c, d, q, hq⟩ := h3
    show popTop (a :: (b :: (r ++ [l, m]))) = _
    have ih : popTop (b :: (r ++ [l, m])) = b :: (r ++ [l ++ [.mk 2 0 [] m]]) := ih
    rw [hq] at ih ⊢
    show a :: popTop (c :: d :: q) = _
    rw [ih]
    rfl
theorem shutAll_one (l : List T) : shutAll [l] = l := rfl

end Go.Proofs.YtodpojbgkeecnaaDoor
