/-
  A region that makes four variables of two numbers and fills them, in whatever order: by an invariant over what has come up. Conditions: those in the theorem.
-/
import Derived.Test.YtkblpcegdfhmoaaDoorDRefSpec
import Derived.Deep.RegionHeld3
namespace Go.Proofs.YtkblpcegdfhmoaaDoor
open Go.RowKit

def zero2 : List Value := [.int .i64 0, .int .i64 0]
/-- Of 28 operations 20 have come up; of the last eight those that b and s say. -/
def L28 (b s : Nat → Bool) : Array Bool := #[true, true, true, true, true, true, true, true, true, true, true, true, true, true, true, true, true, true, true, true, b 0, b 1, b 2, b 3, s 0, s 1, s 2, s 3]
def upd1 (b : Nat → Bool) (j : Nat) : Nat → Bool := fun k => if k = j then true else b k
def updN (p : Nat → Nat) (j q : Nat) : Nat → Nat := fun k => if k = j then q else p k
theorem L28_b (b s : Nat → Bool) : ∀ j, j < 4 → (L28 b s).setIfInBounds (20 + j) true = L28 (upd1 b j) s
  | 0, _ | 1, _ | 2, _ | 3, _ => rfl
theorem L28_s (b s : Nat → Bool) : ∀ j, j < 4 → (L28 b s).setIfInBounds (24 + j) true = L28 b (upd1 s j)
  | 0, _ | 1, _ | 2, _ | 3, _ => rfl
def one1 (b : Bool) : Nat := if b then 0 else 1
def cnt8 (b s : Nat → Bool) : Nat := one1 (b 0) + one1 (b 1) + one1 (b 2) + one1 (b 3) + one1 (s 0) + one1 (s 1) + one1 (s 2) + one1 (s 3)
theorem cnt8_b (b s : Nat → Bool) : ∀ j, j < 4 → b j = false → cnt8 (upd1 b j) s + 1 = cnt8 b s
  | 0, _, h => by simp [cnt8, upd1, one1, h]; omega
  | 1, _, h => by simp [cnt8, upd1, one1, h]; omega
  | 2, _, h => by simp [cnt8, upd1, one1, h]; omega
  | 3, _, h => by simp [cnt8, upd1, one1, h]; omega
theorem cnt8_s (b s : Nat → Bool) : ∀ j, j < 4 → s j = false → cnt8 b (upd1 s j) + 1 = cnt8 b s
  | 0, _, h => by simp [cnt8, upd1, one1, h]; omega
  | 1, _, h => by simp [cnt8, upd1, one1, h]; omega
  | 2, _, h => by simp [cnt8, upd1, one1, h]; omega
  | 3, _, h => by simp [cnt8, upd1, one1, h]
theorem cnt8_zero {b s : Nat → Bool} (h : cnt8 b s = 0) : ∀ j, j < 4 → b j = true ∧ s j = true := by
  have e : ∀ x, one1 x = 0 → x = true := by intro x; cases x <;> simp [one1]
  unfold cnt8 at h
  intro j hj
  match j, hj with
  | 0, _ => exact ⟨e _ (by omega), e _ (by omega)⟩
  | 1, _ => exact ⟨e _ (by omega), e _ (by omega)⟩
  | 2, _ => exact ⟨e _ (by omega), e _ (by omega)⟩
  | 3, _ => exact ⟨e _ (by omega), e _ (by omega)⟩

/-- The frames are alike but for slots 11 to 14. -/
structure Same4 (a0 a : Act) : Prop where
  size : a.tmps.size = a0.tmps.size
  defers : a.defers = a0.defers
  eval : ∀ t, t < 11 ∨ 14 < t → a.tmps.getD t undef = a0.tmps.getD t undef
theorem Same4.put {a0 a : Act} (h : Same4 a0 a) (j : Nat) (hj : j < 4) (v : Value) : Same4 a0 (a.put (some (11 + j)) v) := by
  refine ⟨by simpa [Act.put] using h.size, h.defers, fun t ht => ?_⟩
  rw [← h.eval t ht]
  have hne : 11 + j ≠ t := by omega
  simp [Act.put, Array.getElem?_setIfInBounds_ne hne]
theorem put_same {a : Act} {t : Nat} (ht : t < a.tmps.size) (v : Value) : (a.put (some t) v).tmps.getD t undef = v := by
  simp [Act.put, ht]
theorem put_other {a : Act} {t u : Nat} (h : u ≠ t) (v : Value) : (a.put (some u) v).tmps.getD t undef = a.tmps.getD t undef := by
  simp [Act.put, Array.getElem?_setIfInBounds_ne h]
theorem act_ext {a c : Act} (hs : a.tmps.size = c.tmps.size) (hd : a.defers = c.defers) (h : ∀ t, a.tmps.getD t undef = c.tmps.getD t undef) : a = c := by
  obtain ⟨x, y⟩ := a
  obtain ⟨x', y'⟩ := c
  simp only at hs hd h
  subst hd
  have : x = x' := by
    apply Array.ext hs
    intro t h1 h2
    have := h t
    simpa [h1, h2] using this
  rw [this]
theorem Same4.whole {a0 a : Act} (h : Same4 a0 a) (hsz : 14 < a0.tmps.size) (v : Nat → Value) (hv : ∀ j, j < 4 → a.tmps.getD (11 + j) undef = v j) :
    a = (((a0.put (some 11) (v 0)).put (some 12) (v 1)).put (some 13) (v 2)).put (some 14) (v 3) := by
  refine act_ext (by rw [h.size]; simp [Act.put]) (by rw [h.defers]; rfl) fun t => ?_
  by_cases h14 : t = 14
  · subst h14
    rw [put_same (by simpa [Act.put] using hsz), ← hv 3 (by omega)]
  · rw [put_other (by omega)]
    by_cases h13 : t = 13
    · subst h13
      rw [put_same (by simp [Act.put]; omega), ← hv 2 (by omega)]
    · rw [put_other (by omega)]
      by_cases h12 : t = 12
      · subst h12
        rw [put_same (by simp [Act.put]; omega), ← hv 1 (by omega)]
      · rw [put_other (by omega)]
        by_cases h11 : t = 11
        · subst h11
          rw [put_same (by omega), ← hv 0 (by omega)]
        · rw [put_other (by omega)]
          exact h.eval t (by omega)

theorem wpOp_alloc2 {ops : Array Oper} {Q : Exit → Act → World → Prop} {i : Nat} {K : Act → World → Prop} {a : Act} {w : World} {o : Oper} (ho : ops[i]? = some o) (hop : o.op = .alloc 72) (hg : o.guard = none)
    (h : K (a.put o.dst (.pointer (some ⟨w.heap.size, 0, none⟩))) (w.alloc (.cells zero2.toArray 72))) : wpOp Tryd.prog ops Q i K a w := by
  have hr : (execOp a.eval o).run Tryd.prog w = .ok (.value (.pointer (some ⟨w.heap.size, 0, none⟩))) (w.alloc (.cells zero2.toArray 72)) := by
    unfold execOp
    rw [hop]
    kernel_rfl
  unfold wpOp
  rw [ho]
  simp only [Region.wanted, hg]
  rw [if_pos (by first | trivial | rfl)]
  refine Or.inl ?_
  unfold Oper.wp
  rw [hr, Oper.upon_value]
  exact h
theorem wpOp_store2 {ops : Array Oper} {Q : Exit → Act → World → Prop} {i : Nat} {K : Act → World → Prop} {a : Act} {w : World} {o : Oper} (ho : ops[i]? = some o) {x y : Operand} (hop : o.op = .store 72 x y) (hg : o.guard = none) (hd : o.dst = none)
    {p : Nat} {cs vs : List Value} (hx : a.eval x = .pointer (some ⟨p, 0, none⟩)) (hy : a.eval y = .agg vs.toArray) (hb : Blk w p 72 cs) (hc : cs.length = 2) (hv : vs.length = 2) (h1 : ∀ u ∈ vs, u.oneCell' = true)
    (h : ∀ w', Blk w' p 72 vs → Only [p] w w' → K a w') : wpOp Tryd.prog ops Q i K a w := by
  unfold wpOp
  rw [ho]
  simp only [Region.wanted, hg]
  rw [if_pos (by first | trivial | rfl)]
  refine Or.inl ?_
  have i72 : (Tryd.prog.info? 72).map (·.size) = some 2 := by kernel_rfl
  refine wp_store_mid _ x y hop p 0 vs.toArray hx hy (hb.there (by simp [hc, hv])) (by simpa [hv] using i72) (all_oneCell_toArray h1) ?_
  have hB := hb.setCells vs 0 (by simp [hc, hv])
  rw [over_whole (by rw [hc, hv])] at hB
  rw [hd]
  exact h _ hB (Only.setCells vs p 0 (Only.refl _ _) (.inl (by simp)))

theorem four_boxes {ops : Array Oper} {Q : Exit → Act → World → Prop} {S R : World → Prop} {B : Nat} {x : Nat → List Value} {y : Nat → Nat} (a0 : Act) (hsz : 14 < a0.tmps.size)
    (hS : ∀ w, R w → S w) (hRB : ∀ w, R w → B ≤ w.heap.size) (hRa : ∀ w, R w → R (w.alloc (.cells zero2.toArray 72))) (hRs : ∀ w w' p, R w → B ≤ p → Only [p] w w' → R w')
    (hoa : ∀ j, j < 4 → ∃ o, ops[20 + j]? = some o ∧ o.op = .alloc 72 ∧ o.guard = none ∧ o.dst = some (11 + j))
    (hos : ∀ j, j < 4 → ∃ o, ops[24 + j]? = some o ∧ o.op = .store 72 (.tmp (11 + j)) (.tmp (y j)) ∧ o.guard = none ∧ o.dst = none)
    (hy : ∀ j, j < 4 → 14 < y j ∧ a0.tmps.getD (y j) undef = .agg (x j).toArray ∧ (x j).length = 2 ∧ ∀ u ∈ x j, u.oneCell' = true)
    (f1 : ∀ b s, Region.ready .any ops (L28 b s) = [] → cnt8 b s = 0)
    (f2 : ∀ b s i, i ∈ Region.ready .any ops (L28 b s) → ∃ j, j < 4 ∧ ((i = 20 + j ∧ b j = false) ∨ (i = 24 + j ∧ s j = false ∧ b j = true)))
    (f3 : ∀ b s, cnt8 b s = 0 → Region.ready .any ops (L28 b s) = [])
    (hQ : ∀ (w : World) (p : Nat → Nat), R w → (∀ j, j < 4 → B ≤ p j ∧ Blk w (p j) 72 (x j)) → (∀ j k, j < 4 → k < 4 → j ≠ k → p j ≠ p k) →
      Q .normal ((((a0.put (some 11) (.pointer (some ⟨p 0, 0, none⟩))).put (some 12) (.pointer (some ⟨p 1, 0, none⟩))).put (some 13) (.pointer (some ⟨p 2, 0, none⟩))).put (some 14) (.pointer (some ⟨p 3, 0, none⟩))) w) :
    ∀ (fuel : Nat) (b s : Nat → Bool) (p : Nat → Nat) (a : Act) (w : World), cnt8 b s ≤ fuel → R w → Same4 a0 a →
      (∀ j, j < 4 → s j = true → b j = true) →
      (∀ j, j < 4 → b j = true → a.tmps.getD (11 + j) undef = .pointer (some ⟨p j, 0, none⟩) ∧ B ≤ p j ∧ Blk w (p j) 72 (if s j = true then x j else zero2)) →
      (∀ j k, j < 4 → k < 4 → j ≠ k → b j = true → b k = true → p j ≠ p k) → wpAnyH Tryd.prog .any ops Q S fuel (L28 b s) a w := by
  have done : ∀ (b s : Nat → Bool) (p : Nat → Nat) (a : Act) (w : World), cnt8 b s = 0 → R w → Same4 a0 a →
      (∀ j, j < 4 → b j = true → a.tmps.getD (11 + j) undef = .pointer (some ⟨p j, 0, none⟩) ∧ B ≤ p j ∧ Blk w (p j) 72 (if s j = true then x j else zero2)) →
      (∀ j k, j < 4 → k < 4 → j ≠ k → b j = true → b k = true → p j ≠ p k) → Q .normal a w := by
    intro b s p a w h0 hR hA hB hD
    have hz := cnt8_zero h0
    rw [hA.whole hsz (fun j => .pointer (some ⟨p j, 0, none⟩)) (fun j hj => (hB j hj (hz j hj).1).1)]
    refine hQ w p hR (fun j hj => ?_) (fun j k hj hk hjk => hD j k hj hk hjk (hz j hj).1 (hz k hk).1)
    obtain ⟨-, h1, h2⟩ := hB j hj (hz j hj).1
    rw [if_pos (hz j hj).2] at h2
    exact ⟨h1, h2⟩
  intro fuel
  induction fuel with
  | zero =>
    intro b s p a w hc hR hA _ hB hD
    exact ⟨f3 b s (by omega), done b s p a w (by omega) hR hA hB hD⟩
  | succ fuel ih =>
    intro b s p a w hc hR hA hsb hB hD
    refine ⟨fun h0 => done b s p a w (f1 b s h0) hR hA hB hD, fun i hi => ?_⟩
    obtain ⟨j, hj, ⟨rfl, hbj⟩ | ⟨rfl, hsj, hbj⟩⟩ := f2 b s i hi
    · obtain ⟨o, ho, hop, hg, hd⟩ := hoa j hj
      refine wpOp_alloc2 ho hop hg ?_
      rw [hd, L28_b b s j hj]
      have hRw := hRa w hR
      have hBs := hRB w hR
      have hslt : 11 + j < a.tmps.size := by rw [hA.size]; omega
      refine ⟨hS _ hRw, ih _ _ (updN p j w.heap.size) _ _ (by have := cnt8_b b s j hj hbj; omega) hRw (hA.put j hj _) (fun k hk hsk => ?_) (fun k hk hbk => ?_) (fun k l hk hl hkl hbk hbl => ?_)⟩
      · have := hsb k hk hsk
        unfold upd1
        split
        · rfl
        · exact this
      · by_cases hkj : k = j
        · subst hkj
          have hsk : ¬ s k = true := fun h => by have := hsb k hk h; rw [hbj] at this; cases this
          rw [if_neg hsk]
          unfold updN
          rw [if_pos rfl]
          exact ⟨put_same hslt _, hBs, Blk.new w 72 zero2⟩
        · have hbk' : b k = true := by unfold upd1 at hbk; rwa [if_neg hkj] at hbk
          obtain ⟨h1, h2, h3⟩ := hB k hk hbk'
          unfold updN
          rw [if_neg hkj]
          exact ⟨(put_other (by omega) _).trans h1, h2, h3.alloc _⟩
      · have old : ∀ m, m < 4 → m ≠ j → upd1 b j m = true → b m = true := fun m _ hmj h => by unfold upd1 at h; rwa [if_neg hmj] at h
        unfold updN
        by_cases hkj : k = j
        · rw [if_pos hkj, if_neg (by omega)]
          have := (hB l hl (old l hl (by omega) hbl)).2.2.lt
          omega
        · rw [if_neg hkj]
          by_cases hlj : l = j
          · rw [if_pos hlj]
            have := (hB k hk (old k hk hkj hbk)).2.2.lt
            omega
          · rw [if_neg hlj]
            exact hD k l hk hl hkl (old k hk hkj hbk) (old l hl hlj hbl)
    · obtain ⟨o, ho, hop, hg, hd⟩ := hos j hj
      obtain ⟨h1, h2, h3⟩ := hB j hj hbj
      rw [hsj, if_neg (by simp)] at h3
      obtain ⟨hy1, hy2, hy3, hy4⟩ := hy j hj
      refine wpOp_store2 ho hop hg hd (vs := x j) h1 ((hA.eval _ (.inr hy1)).trans hy2) h3 rfl hy3 hy4 fun w' hb' hO => ?_
      rw [L28_s b s j hj]
      have hRw := hRs w w' _ hR h2 hO
      refine ⟨hS _ hRw, ih _ _ p _ _ (by have := cnt8_s b s j hj hsj; omega) hRw hA (fun k hk hsk => ?_) (fun k hk hbk => ?_) hD⟩
      · by_cases hkj : k = j
        · subst hkj; exact hbj
        · unfold upd1 at hsk
          rw [if_neg hkj] at hsk
          exact hsb k hk hsk
      · by_cases hkj : k = j
        · subst hkj
          unfold upd1
          rw [if_pos rfl, if_pos rfl]
          exact ⟨h1, h2, hb'⟩
        · obtain ⟨g1, g2, g3⟩ := hB k hk hbk
          unfold upd1
          rw [if_neg hkj]
          exact ⟨g1, g2, g3.only hO (by simp; exact hD k j hk hj hkj hbk hbj)⟩

/-- What may come up next is as 'f1' to 'f3' ask. -/
def ok8 (ops : Array Oper) (b0 b1 b2 b3 s0 s1 s2 s3 : Bool) : Bool :=
  let r := Region.ready .any ops #[true, true, true, true, true, true, true, true, true, true, true, true, true, true, true, true, true, true, true, true, b0, b1, b2, b3, s0, s1, s2, s3]
  (r.isEmpty == (b0 && b1 && b2 && b3 && s0 && s1 && s2 && s3)) &&
  r.all fun i => (i == 20 && !b0) || (i == 21 && !b1) || (i == 22 && !b2) || (i == 23 && !b3) || (i == 24 && (!s0 && b0)) || (i == 25 && (!s1 && b1)) || (i == 26 && (!s2 && b2)) || (i == 27 && (!s3 && b3))
theorem four_boxes_start {ops : Array Oper} {Q : Exit → Act → World → Prop} {S : World → Prop} {listed : Array Bool} (a0 : Act) (w : World) (R : World → Prop) (B : Nat) (x : Nat → List Value) (y : Nat → Nat) (hl : listed = L28 (fun _ => false) (fun _ => false)) (hsz : 14 < a0.tmps.size) (hR : R w)
    (hS : ∀ w, R w → S w) (hRB : ∀ w, R w → B ≤ w.heap.size) (hRa : ∀ w, R w → R (w.alloc (.cells zero2.toArray 72))) (hRs : ∀ w w' p, R w → B ≤ p → Only [p] w w' → R w')
    (hoa : ∀ j, j < 4 → ∃ o, ops[20 + j]? = some o ∧ o.op = .alloc 72 ∧ o.guard = none ∧ o.dst = some (11 + j))
    (hos : ∀ j, j < 4 → ∃ o, ops[24 + j]? = some o ∧ o.op = .store 72 (.tmp (11 + j)) (.tmp (y j)) ∧ o.guard = none ∧ o.dst = none)
    (hy : ∀ j, j < 4 → 14 < y j ∧ a0.tmps.getD (y j) undef = .agg (x j).toArray ∧ (x j).length = 2 ∧ ∀ u ∈ x j, u.oneCell' = true)
    (hf : ∀ b0 b1 b2 b3 s0 s1 s2 s3, ok8 ops b0 b1 b2 b3 s0 s1 s2 s3 = true)
    (hQ : ∀ (w : World) (p : Nat → Nat), R w → (∀ j, j < 4 → B ≤ p j ∧ Blk w (p j) 72 (x j)) → (∀ j k, j < 4 → k < 4 → j ≠ k → p j ≠ p k) →
      Q .normal ((((a0.put (some 11) (.pointer (some ⟨p 0, 0, none⟩))).put (some 12) (.pointer (some ⟨p 1, 0, none⟩))).put (some 13) (.pointer (some ⟨p 2, 0, none⟩))).put (some 14) (.pointer (some ⟨p 3, 0, none⟩))) w) :
    wpAnyH Tryd.prog .any ops Q S 8 listed a0 w := by
  subst hl
  have g : ∀ b s : Nat → Bool, ((Region.ready .any ops (L28 b s)).isEmpty = (b 0 && b 1 && b 2 && b 3 && s 0 && s 1 && s 2 && s 3)) ∧ (Region.ready .any ops (L28 b s)).all (fun i => (i == 20 && !b 0) || (i == 21 && !b 1) || (i == 22 && !b 2) || (i == 23 && !b 3) || (i == 24 && (!s 0 && b 0)) || (i == 25 && (!s 1 && b 1)) || (i == 26 && (!s 2 && b 2)) || (i == 27 && (!s 3 && b 3))) = true := by
    intro b s
    have h := hf (b 0) (b 1) (b 2) (b 3) (s 0) (s 1) (s 2) (s 3)
    unfold ok8 at h
    simp only [Bool.and_eq_true, beq_iff_eq] at h
    exact h
  refine four_boxes a0 hsz hS hRB hRa hRs hoa hos hy (fun b s h => ?_) (fun b s i hi => ?_) (fun b s h => ?_) hQ 8 _ _ (fun _ => 0) _ _ (by decide) hR ⟨rfl, rfl, fun _ _ => rfl⟩ (fun j _ h => by cases h) (fun j _ h => by cases h) (fun j k _ _ _ h => by cases h)
  · have := (g b s).1
    rw [h] at this
    simp only [List.isEmpty_nil, Bool.true_eq, Bool.and_eq_true] at this
    obtain ⟨⟨⟨⟨⟨⟨⟨h0, h1⟩, h2⟩, h3⟩, h4⟩, h5⟩, h6⟩, h7⟩ := this
    simp [cnt8, one1, h0, h1, h2, h3, h4, h5, h6, h7]
  · have := List.all_eq_true.1 (g b s).2 i hi
    simp only [Bool.or_eq_true, Bool.and_eq_true, beq_iff_eq, Bool.not_eq_true'] at this
    rcases this with ((((((h | h) | h) | h) | h) | h) | h) | h
    · exact ⟨0, by omega, .inl h⟩
    · exact ⟨1, by omega, .inl h⟩
    · exact ⟨2, by omega, .inl h⟩
    · exact ⟨3, by omega, .inl h⟩
    · exact ⟨0, by omega, .inr h⟩
    · exact ⟨1, by omega, .inr h⟩
    · exact ⟨2, by omega, .inr h⟩
    · exact ⟨3, by omega, .inr h⟩
  · have hz := cnt8_zero h
    have := (g b s).1
    rw [(hz 0 (by omega)).1, (hz 1 (by omega)).1, (hz 2 (by omega)).1, (hz 3 (by omega)).1, (hz 0 (by omega)).2, (hz 1 (by omega)).2, (hz 2 (by omega)).2, (hz 3 (by omega)).2] at this
    exact List.isEmpty_iff.1 this

end Go.Proofs.YtkblpcegdfhmoaaDoor
