/-
  A region that makes four variables of two numbers and fills them, in whatever order: by an invariant over what has come up. Conditions: those in the theorem.
-/
import Derived.Test.YtfkdpndcoegfpaaGreatDoorM3
import Derived.Deep.RegionHeld3
import Derived.Deep.Cut
import Derived.StillTailTactics
import Derived.Deep.DeepCutAuto
section
set_option maxRecDepth 100000
set_option linter.unusedSimpArgs false
set_option linter.unusedVariables false
namespace Go.Proofs.YtfkdpndcoegfpaaGreatDoor
open Go.RowKit

def zero2 : List Value := [.int .i64 0, .int .i64 0]
/-- Of 28 operations 20 have come up; of the last eight those that b and s say. -/
def L28 (b s : Nat → Bool) : Array Bool := #[true, true, true, true, true, true, true, true, true, true, true, true, true, true, true, true, true, true, true, true, b 0, b 1, b 2, b 3, s 0, s 1, s 2, s 3]
def upd1 (b : Nat → Bool) (j : Nat) : Nat → Bool := fun k => if k = j then true else b k
def updN (p : Nat → Nat) (j q : Nat) : Nat → Nat := fun k => if k = j then q else p k
theorem L28_b (b s : Nat → Bool) : ∀ j, j < 4 → (L28 b s).setIfInBounds (20 + j) true = L28 (upd1 b j) s
  | 0, _ | 1, _ | 2, _ | 3, _ => rfl
theorem L28_s (b s : Nat → Bool) : ∀ j, j < 4 → (L28 b s).setIfInBounds (24 + j) true = L28 b (upd1 s j)
  | 0, _ | 1, _ | 2, _ | 3, _ => rfl
def one1 (b : Bool) : Nat := if b then 0 else 1
def cnt8 (b s : Nat → Bool) : Nat := one1 (b 0) + one1 (b 1) + one1 (b 2) + one1 (b 3) + one1 (s 0) + one1 (s 1) + one1 (s 2) + one1 (s 3)
theorem cnt8_b (b s : Nat → Bool) : ∀ j, j < 4 → b j = false → cnt8 (upd1 b j) s + 1 = cnt8 b s
  | 0, _, h => by simp [cnt8, upd1, one1, h]; omega
  | 1, _, h => by simp [cnt8, upd1, one1, h]; omega
  | 2, _, h => by simp [cnt8, upd1, one1, h]; omega
  | 3, _, h => by simp [cnt8, upd1, one1, h]; omega
theorem cnt8_s (b s : Nat → Bool) : ∀ j, j < 4 → s j = false → cnt8 b (upd1 s j) + 1 = cnt8 b s
  | 0, _, h => by simp [cnt8, upd1, one1, h]; omega
  | 1, _, h => by simp [cnt8, upd1, one1, h]; omega
  | 2, _, h => by simp [cnt8, upd1, one1, h]; omega
  | 3, _, h => by simp [cnt8, upd1, one1, h]
theorem cnt8_zero {b s : Nat → Bool} (h : cnt8 b s = 0) : ∀ j, j < 4 → b j = true ∧ s j = true := by
  have e : ∀ x, one1 x = 0 → x = true := by intro x; cases x <;> simp [one1]
  unfold cnt8 at h
  intro j hj
  match j, hj with
  | 0, _ => exact ⟨e _ (by omega), e _ (by omega)⟩
  | 1, _ => exact ⟨e _ (by omega), e _ (by omega)⟩
  | 2, _ => exact ⟨e _ (by omega), e _ (by omega)⟩
  | 3, _ => exact ⟨e _ (by omega), e _ (by omega)⟩

/-- The frames are alike but for slots 11 to 14. -/
structure Same4 (a0 a : Act) : Prop where
  size : a.tmps.size = a0.tmps.size
  defers : a.defers = a0.defers
  eval : ∀ t, t < 11 ∨ 14 < t → a.tmps.getD t undef = a0.tmps.getD t undef
theorem Same4.put {a0 a : Act} (h : Same4 a0 a) (j : Nat) (hj : j < 4) (v : Value) : Same4 a0 (a.put (some (11 + j)) v) := by
  refine ⟨by simpa [Act.put] using h.size, h.defers, fun t ht => ?_⟩
  rw [← h.eval t ht]
  have hne : 11 + j ≠ t := by omega
  simp [Act.put, Array.getElem?_setIfInBounds_ne hne]
theorem put_same {a : Act} {t : Nat} (ht : t < a.tmps.size) (v : Value) : (a.put (some t) v).tmps.getD t undef = v := by
  simp [Act.put, ht]
theorem put_other {a : Act} {t u : Nat} (h : u ≠ t) (v : Value) : (a.put (some u) v).tmps.getD t undef = a.tmps.getD t undef := by
  simp [Act.put, Array.getElem?_setIfInBounds_ne h]
theorem act_ext {a c : Act} (hs : a.tmps.size = c.tmps.size) (hd : a.defers = c.defers) (h : ∀ t, a.tmps.getD t undef = c.tmps.getD t undef) : a = c := by
  obtain ⟨x, y⟩ := a
  obtain ⟨x', y'⟩ := c
  simp only at hs hd h
  subst hd
  have : x = x' := by
    apply Array.ext hs
    intro t h1 h2
    have := h t
    simpa [h1, h2] using this
  rw [this]
theorem Same4.whole {a0 a : Act} (h : Same4 a0 a) (hsz : 14 < a0.tmps.size) (v : Nat → Value) (hv : ∀ j, j < 4 → a.tmps.getD (11 + j) undef = v j) :
    a = (((a0.put (some 11) (v 0)).put (some 12) (v 1)).put (some 13) (v 2)).put (some 14) (v 3) := by
  refine act_ext (by rw [h.size]; simp [Act.put]) (by rw [h.defers]; rfl) fun t => ?_
  by_cases h14 : t = 14
  · subst h14
    rw [put_same (by simpa [Act.put] using hsz), ← hv 3 (by omega)]
  · rw [put_other (by omega)]
    by_cases h13 : t = 13
    · subst h13
      rw [put_same (by simp [Act.put]; omega), ← hv 2 (by omega)]
    · rw [put_other (by omega)]
      by_cases h12 : t = 12
      · subst h12
        rw [put_same (by simp [Act.put]; omega), ← hv 1 (by omega)]
      · rw [put_other (by omega)]
        by_cases h11 : t = 11
        · subst h11
          rw [put_same (by omega), ← hv 0 (by omega)]
        · rw [put_other (by omega)]
          exact h.eval t (by omega)

theorem wpOp_alloc2 {ops : Array Oper} {Q : Exit → Act → World → Prop} {i : Nat} {K : Act → World → Prop} {a : Act} {w : World} {o : Oper} (ho : ops[i]? = some o) (hop : o.op = .alloc 268) (hg : o.guard = none)
    (h : K (a.put o.dst (.pointer (some ⟨w.heap.size, 0, none⟩))) (w.alloc (.cells zero2.toArray 268))) : wpOp Tryz.prog ops Q i K a w := by
  have hr : (execOp a.eval o).run Tryz.prog w = .ok (.value (.pointer (some ⟨w.heap.size, 0, none⟩))) (w.alloc (.cells zero2.toArray 268)) := by
    unfold execOp
    rw [hop]
    kernel_rfl
  unfold wpOp
  rw [ho]
  simp only [Region.wanted, hg]
  rw [if_pos (by first | trivial | rfl)]
  refine Or.inl ?_
  unfold Oper.wp
  rw [hr, Oper.upon_value]
  exact h
theorem wpOp_store2 {ops : Array Oper} {Q : Exit → Act → World → Prop} {i : Nat} {K : Act → World → Prop} {a : Act} {w : World} {o : Oper} (ho : ops[i]? = some o) {x y : Operand} (hop : o.op = .store 268 x y) (hg : o.guard = none) (hd : o.dst = none)
    {p : Nat} {cs vs : List Value} (hx : a.eval x = .pointer (some ⟨p, 0, none⟩)) (hy : a.eval y = .agg vs.toArray) (hb : Blk w p 268 cs) (hc : cs.length = 2) (hv : vs.length = 2) (h1 : ∀ u ∈ vs, u.oneCell' = true)
    (h : ∀ w', Blk w' p 268 vs → Only [p] w w' → K a w') : wpOp Tryz.prog ops Q i K a w := by
  unfold wpOp
  rw [ho]
  simp only [Region.wanted, hg]
  rw [if_pos (by first | trivial | rfl)]
  refine Or.inl ?_
  have i72 : (Tryz.prog.info? 268).map (·.size) = some 2 := by kernel_rfl
  refine wp_store_mid _ x y hop p 0 vs.toArray hx hy (hb.there (by simp [hc, hv])) (by simpa [hv] using i72) (all_oneCell_toArray h1) ?_
  have hB := hb.setCells vs 0 (by simp [hc, hv])
  rw [over_whole (by rw [hc, hv])] at hB
  rw [hd]
  exact h _ hB (Only.setCells vs p 0 (Only.refl _ _) (.inl (by simp)))

theorem four_boxes {ops : Array Oper} {Q : Exit → Act → World → Prop} {S R : World → Prop} {B : Nat} {x : Nat → List Value} {y : Nat → Nat} (a0 : Act) (hsz : 14 < a0.tmps.size)
    (hS : ∀ w, R w → S w) (hRB : ∀ w, R w → B ≤ w.heap.size) (hRa : ∀ w, R w → R (w.alloc (.cells zero2.toArray 268))) (hRs : ∀ w w' p, R w → B ≤ p → Only [p] w w' → R w')
    (hoa : ∀ j, j < 4 → ∃ o, ops[20 + j]? = some o ∧ o.op = .alloc 268 ∧ o.guard = none ∧ o.dst = some (11 + j))
    (hos : ∀ j, j < 4 → ∃ o, ops[24 + j]? = some o ∧ o.op = .store 268 (.tmp (11 + j)) (.tmp (y j)) ∧ o.guard = none ∧ o.dst = none)
    (hy : ∀ j, j < 4 → 14 < y j ∧ a0.tmps.getD (y j) undef = .agg (x j).toArray ∧ (x j).length = 2 ∧ ∀ u ∈ x j, u.oneCell' = true)
    (f1 : ∀ b s, Region.ready .any ops (L28 b s) = [] → cnt8 b s = 0)
    (f2 : ∀ b s i, i ∈ Region.ready .any ops (L28 b s) → ∃ j, j < 4 ∧ ((i = 20 + j ∧ b j = false) ∨ (i = 24 + j ∧ s j = false ∧ b j = true)))
    (f3 : ∀ b s, cnt8 b s = 0 → Region.ready .any ops (L28 b s) = [])
    (hQ : ∀ (w : World) (p : Nat → Nat), R w → (∀ j, j < 4 → B ≤ p j ∧ Blk w (p j) 268 (x j)) → (∀ j k, j < 4 → k < 4 → j ≠ k → p j ≠ p k) →
      Q .normal ((((a0.put (some 11) (.pointer (some ⟨p 0, 0, none⟩))).put (some 12) (.pointer (some ⟨p 1, 0, none⟩))).put (some 13) (.pointer (some ⟨p 2, 0, none⟩))).put (some 14) (.pointer (some ⟨p 3, 0, none⟩))) w) :
    ∀ (fuel : Nat) (b s : Nat → Bool) (p : Nat → Nat) (a : Act) (w : World), cnt8 b s ≤ fuel → R w → Same4 a0 a →
      (∀ j, j < 4 → s j = true → b j = true) →
      (∀ j, j < 4 → b j = true → a.tmps.getD (11 + j) undef = .pointer (some ⟨p j, 0, none⟩) ∧ B ≤ p j ∧ Blk w (p j) 268 (if s j = true then x j else zero2)) →
      (∀ j k, j < 4 → k < 4 → j ≠ k → b j = true → b k = true → p j ≠ p k) → wpAnyH Tryz.prog .any ops Q S fuel (L28 b s) a w := by
  have done : ∀ (b s : Nat → Bool) (p : Nat → Nat) (a : Act) (w : World), cnt8 b s = 0 → R w → Same4 a0 a →
      (∀ j, j < 4 → b j = true → a.tmps.getD (11 + j) undef = .pointer (some ⟨p j, 0, none⟩) ∧ B ≤ p j ∧ Blk w (p j) 268 (if s j = true then x j else zero2)) →
      (∀ j k, j < 4 → k < 4 → j ≠ k → b j = true → b k = true → p j ≠ p k) → Q .normal a w := by
    intro b s p a w h0 hR hA hB hD
    have hz := cnt8_zero h0
    rw [hA.whole hsz (fun j => .pointer (some ⟨p j, 0, none⟩)) (fun j hj => (hB j hj (hz j hj).1).1)]
    refine hQ w p hR (fun j hj => ?_) (fun j k hj hk hjk => hD j k hj hk hjk (hz j hj).1 (hz k hk).1)
    obtain ⟨-, h1, h2⟩ := hB j hj (hz j hj).1
    rw [if_pos (hz j hj).2] at h2
    exact ⟨h1, h2⟩
  intro fuel
  induction fuel with
  | zero =>
    intro b s p a w hc hR hA _ hB hD
    exact ⟨f3 b s (by omega), done b s p a w (by omega) hR hA hB hD⟩
  | succ fuel ih =>
    intro b s p a w hc hR hA hsb hB hD
    refine ⟨fun h0 => done b s p a w (f1 b s h0) hR hA hB hD, fun i hi => ?_⟩
    obtain ⟨j, hj, ⟨rfl, hbj⟩ | ⟨rfl, hsj, hbj⟩⟩ := f2 b s i hi
    · obtain ⟨o, ho, hop, hg, hd⟩ := hoa j hj
      refine wpOp_alloc2 ho hop hg ?_
      rw [hd, L28_b b s j hj]
      have hRw := hRa w hR
      have hBs := hRB w hR
      have hslt : 11 + j < a.tmps.size := by rw [hA.size]; omega
      refine ⟨hS _ hRw, ih _ _ (updN p j w.heap.size) _ _ (by have := cnt8_b b s j hj hbj; omega) hRw (hA.put j hj _) (fun k hk hsk => ?_) (fun k hk hbk => ?_) (fun k l hk hl hkl hbk hbl => ?_)⟩
      · have := hsb k hk hsk
        unfold upd1
        split
        · rfl
        · exact this
      · by_cases hkj : k = j
        · subst hkj
          have hsk : ¬ s k = true := fun h => by have := hsb k hk h; rw [hbj] at this; cases this
          rw [if_neg hsk]
          unfold updN
          rw [if_pos rfl]
          exact ⟨put_same hslt _, hBs, Blk.new w 268 zero2⟩
        · have hbk' : b k = true := by unfold upd1 at hbk; rwa [if_neg hkj] at hbk
          obtain ⟨h1, h2, h3⟩ := hB k hk hbk'
          unfold updN
          rw [if_neg hkj]
          exact ⟨(put_other (by omega) _).trans h1, h2, h3.alloc _⟩
      · have old : ∀ m, m < 4 → m ≠ j → upd1 b j m = true → b m = true := fun m _ hmj h => by unfold upd1 at h; rwa [if_neg hmj] at h
        unfold updN
        by_cases hkj : k = j
        · rw [if_pos hkj, if_neg (by omega)]
          have := (hB l hl (old l hl (by omega) hbl)).2.2.lt
          omega
        · rw [if_neg hkj]
          by_cases hlj : l = j
          · rw [if_pos hlj]
            have := (hB k hk (old k hk hkj hbk)).2.2.lt
            omega
          · rw [if_neg hlj]
            exact hD k l hk hl hkl (old k hk hkj hbk) (old l hl hlj hbl)
    · obtain ⟨o, ho, hop, hg, hd⟩ := hos j hj
      obtain ⟨h1, h2, h3⟩ := hB j hj hbj
      rw [hsj, if_neg (by simp)] at h3
      obtain ⟨hy1, hy2, hy3, hy4⟩ := hy j hj
      refine wpOp_store2 ho hop hg hd (vs := x j) h1 ((hA.eval _ (.inr hy1)).trans hy2) h3 rfl hy3 hy4 fun w' hb' hO => ?_
      rw [L28_s b s j hj]
      have hRw := hRs w w' _ hR h2 hO
      refine ⟨hS _ hRw, ih _ _ p _ _ (by have := cnt8_s b s j hj hsj; omega) hRw hA (fun k hk hsk => ?_) (fun k hk hbk => ?_) hD⟩
      · by_cases hkj : k = j
        · subst hkj; exact hbj
        · unfold upd1 at hsk
          rw [if_neg hkj] at hsk
          exact hsb k hk hsk
      · by_cases hkj : k = j
        · subst hkj
          unfold upd1
          rw [if_pos rfl, if_pos rfl]
          exact ⟨h1, h2, hb'⟩
        · obtain ⟨g1, g2, g3⟩ := hB k hk hbk
          unfold upd1
          rw [if_neg hkj]
          exact ⟨g1, g2, g3.only hO (by simp; exact hD k j hk hj hkj hbk hbj)⟩

/-- What may come up next is as 'f1' to 'f3' ask. -/
def ok8 (ops : Array Oper) (b0 b1 b2 b3 s0 s1 s2 s3 : Bool) : Bool :=
  let r := Region.ready .any ops #[true, true, true, true, true, true, true, true, true, true, true, true, true, true, true, true, true, true, true, true, b0, b1, b2, b3, s0, s1, s2, s3]
  (r.isEmpty == (b0 && b1 && b2 && b3 && s0 && s1 && s2 && s3)) &&
  r.all fun i => (i == 20 && !b0) || (i == 21 && !b1) || (i == 22 && !b2) || (i == 23 && !b3) || (i == 24 && (!s0 && b0)) || (i == 25 && (!s1 && b1)) || (i == 26 && (!s2 && b2)) || (i == 27 && (!s3 && b3))
theorem four_boxes_start {ops : Array Oper} {Q : Exit → Act → World → Prop} {S : World → Prop} {listed : Array Bool} (a0 : Act) (w : World) (R : World → Prop) (B : Nat) (x : Nat → List Value) (y : Nat → Nat) (hl : listed = L28 (fun _ => false) (fun _ => false)) (hsz : 14 < a0.tmps.size) (hR : R w)
    (hS : ∀ w, R w → S w) (hRB : ∀ w, R w → B ≤ w.heap.size) (hRa : ∀ w, R w → R (w.alloc (.cells zero2.toArray 268))) (hRs : ∀ w w' p, R w → B ≤ p → Only [p] w w' → R w')
    (hoa : ∀ j, j < 4 → ∃ o, ops[20 + j]? = some o ∧ o.op = .alloc 268 ∧ o.guard = none ∧ o.dst = some (11 + j))
    (hos : ∀ j, j < 4 → ∃ o, ops[24 + j]? = some o ∧ o.op = .store 268 (.tmp (11 + j)) (.tmp (y j)) ∧ o.guard = none ∧ o.dst = none)
    (hy : ∀ j, j < 4 → 14 < y j ∧ a0.tmps.getD (y j) undef = .agg (x j).toArray ∧ (x j).length = 2 ∧ ∀ u ∈ x j, u.oneCell' = true)
    (hf : ∀ b0 b1 b2 b3 s0 s1 s2 s3, ok8 ops b0 b1 b2 b3 s0 s1 s2 s3 = true)
    (hQ : ∀ (w : World) (p : Nat → Nat), R w → (∀ j, j < 4 → B ≤ p j ∧ Blk w (p j) 268 (x j)) → (∀ j k, j < 4 → k < 4 → j ≠ k → p j ≠ p k) →
      Q .normal ((((a0.put (some 11) (.pointer (some ⟨p 0, 0, none⟩))).put (some 12) (.pointer (some ⟨p 1, 0, none⟩))).put (some 13) (.pointer (some ⟨p 2, 0, none⟩))).put (some 14) (.pointer (some ⟨p 3, 0, none⟩))) w) :
    wpAnyH Tryz.prog .any ops Q S 8 listed a0 w := by
  subst hl
  have g : ∀ b s : Nat → Bool, ((Region.ready .any ops (L28 b s)).isEmpty = (b 0 && b 1 && b 2 && b 3 && s 0 && s 1 && s 2 && s 3)) ∧ (Region.ready .any ops (L28 b s)).all (fun i => (i == 20 && !b 0) || (i == 21 && !b 1) || (i == 22 && !b 2) || (i == 23 && !b 3) || (i == 24 && (!s 0 && b 0)) || (i == 25 && (!s 1 && b 1)) || (i == 26 && (!s 2 && b 2)) || (i == 27 && (!s 3 && b 3))) = true := by
    intro b s
    have h := hf (b 0) (b 1) (b 2) (b 3) (s 0) (s 1) (s 2) (s 3)
    unfold ok8 at h
    simp only [Bool.and_eq_true, beq_iff_eq] at h
    exact h
  refine four_boxes a0 hsz hS hRB hRa hRs hoa hos hy (fun b s h => ?_) (fun b s i hi => ?_) (fun b s h => ?_) hQ 8 _ _ (fun _ => 0) _ _ (by decide) hR ⟨rfl, rfl, fun _ _ => rfl⟩ (fun j _ h => by cases h) (fun j _ h => by cases h) (fun j k _ _ _ h => by cases h)
  · have := (g b s).1
    rw [h] at this
    simp only [List.isEmpty_nil, Bool.true_eq, Bool.and_eq_true] at this
    obtain ⟨⟨⟨⟨⟨⟨⟨h0, h1⟩, h2⟩, h3⟩, h4⟩, h5⟩, h6⟩, h7⟩ := this
    simp [cnt8, one1, h0, h1, h2, h3, h4, h5, h6, h7]
  · have := List.all_eq_true.1 (g b s).2 i hi
    simp only [Bool.or_eq_true, Bool.and_eq_true, beq_iff_eq, Bool.not_eq_true'] at this
    rcases this with ((((((h | h) | h) | h) | h) | h) | h) | h
    · exact ⟨0, by omega, .inl h⟩
    · exact ⟨1, by omega, .inl h⟩
    · exact ⟨2, by omega, .inl h⟩
    · exact ⟨3, by omega, .inl h⟩
    · exact ⟨0, by omega, .inr h⟩
    · exact ⟨1, by omega, .inr h⟩
    · exact ⟨2, by omega, .inr h⟩
    · exact ⟨3, by omega, .inr h⟩
  · have hz := cnt8_zero h
    have := (g b s).1
    rw [(hz 0 (by omega)).1, (hz 1 (by omega)).1, (hz 2 (by omega)).1, (hz 3 (by omega)).1, (hz 0 (by omega)).2, (hz 1 (by omega)).2, (hz 2 (by omega)).2, (hz 3 (by omega)).2] at this
    exact List.isEmpty_iff.1 this

end Go.Proofs.YtfkdpndcoegfpaaGreatDoor
end

/-
  The document's turn: the words behind a block. Conditions: 64 bytes, each cell there; the table and the words are of 32 bits.
-/

section
set_option maxRecDepth 100000
set_option linter.unusedSimpArgs false
set_option linter.unusedVariables false
namespace Go.Proofs.YtfkdpndcoegfpaaGreatDoor
open Go.RowKit

/-- What the document's turn keeps in memory. -/
structure RT (B : Nat) (w0 w : World) (H0 ks : List B32) (s : S8) (sch : List B32) : Prop where
  tab : Blk w B 38 (Wi H0 ++ Wi ks)
  wds : Blk w (B + 1) 35 (Wi s.list)
  out : Blk w (B + 2) 35 (List.replicate 8 (.int .i64 0))
  sch : Blk w (B + 3) 36 (parti sch)
  bel : Below B w0 w
theorem RT.start (w : World) (H0 ks : List B32) (s : S8) : RT w.heap.size w ((((w.alloc (.cells (Wi H0 ++ Wi ks).toArray 38)).alloc (.cells (Wi s.list).toArray 35)).alloc (.cells (List.replicate 8 (Value.int .i64 0)).toArray 35)).alloc (.cells (List.replicate 64 (Value.int .i64 0)).toArray 36)) H0 ks s [] := by
  have hb := Below.refl w.heap.size w
  have b0 := Blk.new w 38 (Wi H0 ++ Wi ks)
  have b1 := Blk.new (w.alloc (.cells (Wi H0 ++ Wi ks).toArray 38)) 35 (Wi s.list)
  have b2 := Blk.new ((w.alloc (.cells (Wi H0 ++ Wi ks).toArray 38)).alloc (.cells (Wi s.list).toArray 35)) 35 (List.replicate 8 (Value.int .i64 0))
  have b3 := Blk.new (((w.alloc (.cells (Wi H0 ++ Wi ks).toArray 38)).alloc (.cells (Wi s.list).toArray 35)).alloc (.cells (List.replicate 8 (Value.int .i64 0)).toArray 35)) 36 (List.replicate 64 (Value.int .i64 0))
  simp only [World.size_alloc] at b1 b2 b3
  exact ⟨((b0.alloc _).alloc _).alloc _, (b1.alloc _).alloc _, b2.alloc _, b3, (((hb.alloc (Nat.le_refl _) _).alloc (by simp) _).alloc (by simp; omega) _).alloc (by simp; omega) _⟩
theorem RT.drewN {B : Nat} {w0 w : World} {H0 ks : List B32} {s : S8} {sch : List B32} (h : RT B w0 w H0 ks s sch) (n : Nat) : RT B w0 (w.drewN n) H0 ks s sch :=
  ⟨h.tab.drewN n, h.wds.drewN n, h.out.drewN n, h.sch.drewN n, h.bel.trans ⟨rfl, rfl, rfl, Nat.le_refl _, fun _ _ => rfl⟩⟩
theorem RT.drew {B : Nat} {w0 w : World} {H0 ks : List B32} {s : S8} {sch : List B32} (h : RT B w0 w H0 ks s sch) : RT B w0 w.drew H0 ks s sch :=
  ⟨h.tab.drew, h.wds.drew, h.out.drew, h.sch.drew, h.bel.drew⟩
theorem RT.put {B : Nat} {w0 w : World} {H0 ks : List B32} {s : S8} {sch : List B32} (h : RT B w0 w H0 ks s sch) (k : Nat) (hk : sch.length = k) (hk2 : k < 64) (x : B32) : RT B w0 (w.setCell ⟨B + 3, k, none⟩ (.int .i64 (nw x))) H0 ks s (sch ++ [x]) := by
  subst hk
  refine ⟨h.tab.far (p := ⟨B + 3, _, none⟩) (by simp) _, h.wds.far (p := ⟨B + 3, _, none⟩) (by simp) _, h.out.far (p := ⟨B + 3, _, none⟩) (by simp) _, ?_, h.bel.setCell (p := ⟨B + 3, _, none⟩) (by simp) _⟩
  have := h.sch.set_ sch.length (.int .i64 (nw x))
  rw [parti_set hk2] at this
  exact this

theorem sum6_mod (d h u v k x : B32) : (nw d + (nw h + nw u + nw v + nw k + nw x)) % 4294967296 = nw (d + (h + u + v + k + x)) := by
  rw [mod_nw, BitVec.ofInt_add, BitVec.ofInt_add, BitVec.ofInt_add, BitVec.ofInt_add, BitVec.ofInt_add, ofInt_nw, ofInt_nw, ofInt_nw, ofInt_nw, ofInt_nw, ofInt_nw]
theorem sum7_mod (h u v k x y z : B32) : (nw h + nw u + nw v + nw k + nw x + (nw y + nw z)) % 4294967296 = nw (h + u + v + k + x + (y + z)) := by
  rw [mod_nw, BitVec.ofInt_add, BitVec.ofInt_add, BitVec.ofInt_add, BitVec.ofInt_add, BitVec.ofInt_add, BitVec.ofInt_add, ofInt_nw, ofInt_nw, ofInt_nw, ofInt_nw, ofInt_nw, ofInt_nw, ofInt_nw]
theorem sum2_mod (h u : B32) : (nw h + nw u) % 4294967296 = nw (h + u) := by
  rw [mod_nw, BitVec.ofInt_add, ofInt_nw, ofInt_nw]
theorem add8_comm (s t : S8) : add8 s t = add8 t s := by
  unfold add8
  simp only [BitVec.add_comm]
theorem mixi_cell {w : World} {p j : Nat} {s t : S8} (h : Blk w p 35 (Wi (mix8 s t j))) (hj : j < 8) : w.cell? ⟨p, j, none⟩ = some (.int .i64 (nw (s.list.getD j 0))) := by
  rw [h.cell, Wi_get, mix8_get s t hj]
  rfl
theorem mixi_step {w : World} {p j : Nat} {s t : S8} (h : Blk w p 35 (Wi (mix8 s t j))) (hj : j < 8) : Blk (w.setCell ⟨p, j, none⟩ (.int .i64 (nw (s.list.getD j 0 + t.list.getD j 0)))) p 35 (Wi (mix8 s t (j + 1))) := by
  have := h.set_ j (.int .i64 (nw (s.list.getD j 0 + t.list.getD j 0)))
  rw [Wi_set, mix8_set s t hj] at this
  exact this
theorem RT.alloc {B : Nat} {w0 w : World} {H0 ks : List B32} {s : S8} {sch : List B32} (h : RT B w0 w H0 ks s sch) (ob : Obj) : RT B w0 (w.alloc ob) H0 ks s sch :=
  ⟨h.tab.alloc _, h.wds.alloc _, h.out.alloc _, h.sch.alloc _, h.bel.alloc (by have := h.sch.lt; omega) _⟩
theorem RT.only {B : Nat} {w0 w w' : World} {H0 ks : List B32} {s : S8} {sch : List B32} (h : RT B w0 w H0 ks s sch) {p : Nat} (hp : B + 4 ≤ p) (hO : Only [p] w w') : RT B w0 w' H0 ks s sch :=
  ⟨h.tab.only hO (by simp; omega), h.wds.only hO (by simp; omega), h.out.only hO (by simp; omega), h.sch.only hO (by simp; omega), h.bel.trans (hO.below (B := B) (by have := h.sch.lt; omega) (by simp; omega))⟩

/-- With the four pairs that the rounds turn. -/
structure RB (B : Nat) (w0 w : World) (H0 ks : List B32) (s : S8) (sch : List B32) (p0 p1 p2 p3 : Nat) (t : S8) : Prop where
  rt : RT B w0 w H0 ks s sch
  A : Blk w p0 268 (Wi [t.a, t.b])
  C : Blk w p1 268 (Wi [t.c, t.d])
  E : Blk w p2 268 (Wi [t.e, t.f])
  G : Blk w p3 268 (Wi [t.g, t.h])
structure Four (B p0 p1 p2 p3 : Nat) : Prop where
  b0 : B + 4 ≤ p0
  b1 : B + 4 ≤ p1
  b2 : B + 4 ≤ p2
  b3 : B + 4 ≤ p3
  d01 : p0 ≠ p1
  d02 : p0 ≠ p2
  d03 : p0 ≠ p3
  d12 : p1 ≠ p2
  d13 : p1 ≠ p3
  d23 : p2 ≠ p3
section
variable {B : Nat} {w0 w w' : World} {H0 ks : List B32} {s t : S8} {sch : List B32} {p0 p1 p2 p3 : Nat}
theorem RB.drewN (h : RB B w0 w H0 ks s sch p0 p1 p2 p3 t) (n : Nat) : RB B w0 (w.drewN n) H0 ks s sch p0 p1 p2 p3 t := ⟨h.rt.drewN n, h.A.drewN n, h.C.drewN n, h.E.drewN n, h.G.drewN n⟩
theorem RB.putG (h : RB B w0 w H0 ks s sch p0 p1 p2 p3 t) (f : Four B p0 p1 p2 p3) {x y : B32} (hb : Blk w' p3 268 (Wi [x, y])) (hO : Only [p3] w w') : RB B w0 w' H0 ks s sch p0 p1 p2 p3 { t with g := x, h := y } :=
  ⟨h.rt.only f.b3 hO, h.A.only hO (by have := f.d03; simp; omega), h.C.only hO (by have := f.d13; simp; omega), h.E.only hO (by have := f.d23; simp; omega), hb⟩
theorem RB.putE (h : RB B w0 w H0 ks s sch p0 p1 p2 p3 t) (f : Four B p0 p1 p2 p3) {x y : B32} (hb : Blk w' p2 268 (Wi [x, y])) (hO : Only [p2] w w') : RB B w0 w' H0 ks s sch p0 p1 p2 p3 { t with e := x, f := y } :=
  ⟨h.rt.only f.b2 hO, h.A.only hO (by have := f.d02; simp; omega), h.C.only hO (by have := f.d12; simp; omega), hb, h.G.only hO (by have := f.d23; simp; omega)⟩
theorem RB.putC (h : RB B w0 w H0 ks s sch p0 p1 p2 p3 t) (f : Four B p0 p1 p2 p3) {x y : B32} (hb : Blk w' p1 268 (Wi [x, y])) (hO : Only [p1] w w') : RB B w0 w' H0 ks s sch p0 p1 p2 p3 { t with c := x, d := y } :=
  ⟨h.rt.only f.b1 hO, h.A.only hO (by have := f.d01; simp; omega), hb, h.E.only hO (by have := f.d12; simp; omega), h.G.only hO (by have := f.d13; simp; omega)⟩
theorem RB.putA (h : RB B w0 w H0 ks s sch p0 p1 p2 p3 t) (f : Four B p0 p1 p2 p3) {x y : B32} (hb : Blk w' p0 268 (Wi [x, y])) (hO : Only [p0] w w') : RB B w0 w' H0 ks s sch p0 p1 p2 p3 { t with a := x, b := y } :=
  ⟨h.rt.only f.b0 hO, hb, h.C.only hO (by have := f.d01; simp; omega), h.E.only hO (by have := f.d02; simp; omega), h.G.only hO (by have := f.d03; simp; omega)⟩
theorem pair_cell {p : Nat} {x y : B32} (h : Blk w p 268 (Wi [x, y])) : w.cell? ⟨p, 0, none⟩ = some (.int .i64 (nw x)) ∧ w.cell? ⟨p, 1, none⟩ = some (.int .i64 (nw y)) := ⟨h.cell 0, h.cell 1⟩
end
def pairs (s : S8) : Nat → List Value
  | 0 => Wi [s.a, s.b]
  | 1 => Wi [s.c, s.d]
  | 2 => Wi [s.e, s.f]
  | _ => Wi [s.g, s.h]

theorem rt_cells {B : Nat} {w0 w : World} {H0 ks : List B32} {s : S8} {sch : List B32} (h : RT B w0 w H0 ks s sch) :
    w.cell? ⟨B + 1, 0, none⟩ = some (.int .i64 (nw s.a)) ∧ w.cell? ⟨B + 1, 1, none⟩ = some (.int .i64 (nw s.b)) ∧ w.cell? ⟨B + 1, 2, none⟩ = some (.int .i64 (nw s.c)) ∧ w.cell? ⟨B + 1, 3, none⟩ = some (.int .i64 (nw s.d)) ∧
    w.cell? ⟨B + 1, 4, none⟩ = some (.int .i64 (nw s.e)) ∧ w.cell? ⟨B + 1, 5, none⟩ = some (.int .i64 (nw s.f)) ∧ w.cell? ⟨B + 1, 6, none⟩ = some (.int .i64 (nw s.g)) ∧ w.cell? ⟨B + 1, 7, none⟩ = some (.int .i64 (nw s.h)) :=
  ⟨h.wds.cell 0, h.wds.cell 1, h.wds.cell 2, h.wds.cell 3, h.wds.cell 4, h.wds.cell 5, h.wds.cell 6, h.wds.cell 7⟩
theorem sum4_mod (a b c d : B32) : (nw a + nw b + nw c + nw d) % 4294967296 = nw (a + b + c + d) := by
  rw [mod_nw, BitVec.ofInt_add, BitVec.ofInt_add, BitVec.ofInt_add, ofInt_nw, ofInt_nw, ofInt_nw, ofInt_nw]

set_option linter.unusedSimpArgs false in
set_option maxHeartbeats 4000000 in
set_option maxRecDepth 100000 in
theorem refturn_any (w : World) (H0 ks : List B32) (hH : H0.length = 8) (hks : ks.length = 64) (s : S8) (g o c : Nat) (bs : List B8) (hcells : ∀ j, j < 64 → w.cell? ⟨g, o + j, none⟩ = some (.int .u8 (nb (bs.getD j 0)))) :
    Calls Tryz.prog 163 #[.agg (Wi H0 ++ Wi ks).toArray, .agg (Wi s.list).toArray, .slice (some ⟨g, o, none⟩) 64 c] w fun e w' => e = .returned (.agg (Wi (turn8 ks s bs).list).toArray) ∧ Below w.heap.size w w' := by
  have hg : g < w.heap.size := World.block_lt_of_cell? w _ (hcells 0 (by omega))
  have HC := Lib.hid hcells
  have h0 := Lib.hid (RT.start w H0 ks s)
  clear hcells
  go_enter Tryz.func163, Tryz.ntmps163
  go_wp2_with fail
  go_loopw [8] (fun i wr => ∃ k : Nat, k ≤ 64 ∧ i = .int .i64 k ∧ RT w.heap.size w wr H0 ks s (schedN bs k)) (fun i _ => 64 - (intOf i).toNat)
  case atStart => exact ⟨0, by omega, rfl, h0.out⟩
  case round =>
    clear h0
    obtain ⟨k, hk, rfl, hr⟩ := hrel
    have hlk := schedN_length bs k
    have HR := Lib.hid hr
    clear hr
    by_cases hk64 : k < 64
    · by_cases hk16 : k < 16
      · have f0 : wr.cell? ⟨g, o + 4 * k, none⟩ = some (.int .u8 (nb (bs.getD (4 * k) 0))) := (HR.out.bel.cell hg).trans (HC.out _ (by omega))
        have f1 : wr.cell? ⟨g, o + (4 * k + 1), none⟩ = some (.int .u8 (nb (bs.getD (4 * k + 1) 0))) := (HR.out.bel.cell hg).trans (HC.out _ (by omega))
        have f2 : wr.cell? ⟨g, o + (4 * k + 2), none⟩ = some (.int .u8 (nb (bs.getD (4 * k + 2) 0))) := (HR.out.bel.cell hg).trans (HC.out _ (by omega))
        have f3 : wr.cell? ⟨g, o + (4 * k + 3), none⟩ = some (.int .u8 (nb (bs.getD (4 * k + 3) 0))) := (HR.out.bel.cell hg).trans (HC.out _ (by omega))
        have e0 := Lib.hid (word4_eq bs k)
        generalize bs.getD (4 * k) 0 = b0 at f0 e0
        generalize bs.getD (4 * k + 1) 0 = b1 at f1 e0
        generalize bs.getD (4 * k + 2) 0 = b2 at f2 e0
        generalize bs.getD (4 * k + 3) 0 = b3 at f3 e0
        have n0 := nb_bound b0
        have n1 := nb_bound b1
        have n2 := nb_bound b2
        have n3 := nb_bound b3
        have hfz := HR.out.sch.frozen k
        have hz := parti_next (l := schedN bs k) (by omega)
        rw [← HR.out.sch.cell, hlk] at hz
        have hLK := Lib.hid hlk
        clear hlk
        go_wp2_with fail
        go_region
        all_goals go_wp2
        all_goals go_roundw
        case rel =>
          refine ⟨k + 1, by omega, by go_num, ?_⟩
          rw [schedN_own bs hk16, e0.out, word_sum]
          exact HR.out.drew.put k hLK.out (by omega) _
        case measure => simp [intOf]; omega
      · obtain ⟨m, rfl⟩ : ∃ m, k = 16 + m := ⟨k - 16, by omega⟩
        have hg16 := parti_get (l := schedN bs (16 + m)) (i := 16 + m - 16) (by omega)
        have hg15 := parti_get (l := schedN bs (16 + m)) (i := 16 + m - 15) (by omega)
        have hg7 := parti_get (l := schedN bs (16 + m)) (i := 16 + m - 7) (by omega)
        have hg2 := parti_get (l := schedN bs (16 + m)) (i := 16 + m - 2) (by omega)
        have hz := parti_next (l := schedN bs (16 + m)) (by omega)
        rw [show 16 + m - 16 = m by omega] at hg16
        rw [← HR.out.sch.cell] at hg16 hg15 hg7 hg2 hz
        rw [hlk] at hz
        have hN := schedN_more bs (k := 16 + m) (by omega)
        rw [show 16 + m - 16 = m by omega] at hN
        have hfz := HR.out.sch.frozen (16 + m)
        have HN := Lib.hid hN
        clear hN
        generalize (schedN bs (16 + m)).getD m 0 = x16 at hg16 HN
        generalize (schedN bs (16 + m)).getD (16 + m - 15) 0 = x15 at hg15 HN
        generalize (schedN bs (16 + m)).getD (16 + m - 7) 0 = x7 at hg7 HN
        generalize (schedN bs (16 + m)).getD (16 + m - 2) 0 = x2 at hg2 HN
        have hmi : (m : Int) < 48 := by omega
        have hm0 : (0 : Int) ≤ (m : Int) := by omega
        have n16 := nw_bound x16
        have n15 := nw_bound x15
        have n7 := nw_bound x7
        have n2 := nw_bound x2
        have hq15 : wr.cell? ⟨w.heap.size + 1 + 1 + 1, 16 + m - 15, none⟩ = some (.int .i64 (nw x15)) := hg15
        have hq2 : wr.cell? ⟨w.heap.size + 1 + 1 + 1, 16 + m - 2, none⟩ = some (.int .i64 (nw x2)) := hg2
        have t3 := div_3 x15
        have t10 := div_10 x2
        have xr1 := xor_i64 (rr x15 7) (rr x15 18)
        have xr2 := xor_i64 (rr x15 7 ^^^ rr x15 18) (x15 >>> 3)
        have yr1 := xor_i64 (rr x2 17) (rr x2 19)
        have yr2 := xor_i64 (rr x2 17 ^^^ rr x2 19) (x2 >>> 10)
        go_wp2_with fail
        go_quiet (first
          | (go_at_call 187; with_reducible refine (turned_7 _ _).mono ?_; rintro e w' ⟨rfl, k, rfl⟩; exact ⟨rfl, _, World.drewN_drewN ..⟩)
          | (go_at_call 187; with_reducible refine (turned_18 _ _).mono ?_; rintro e w' ⟨rfl, k, rfl⟩; exact ⟨rfl, _, World.drewN_drewN ..⟩))
        have HR2 := Lib.hid (HR.out.drewN nq)
        have hq2z : (wr.drewN nq).cell? ⟨w.heap.size + 1 + 1 + 1, 16 + m - 2, none⟩ = some (.int .i64 (nw x2)) := hq2
        have hg16z : (wr.drewN nq).cell? ⟨w.heap.size + 3, m, none⟩ = some (.int .i64 (nw x16)) := hg16
        have hg7z : (wr.drewN nq).cell? ⟨w.heap.size + 3, 16 + m - 7, none⟩ = some (.int .i64 (nw x7)) := hg7
        have hzz : (wr.drewN nq).cell? ⟨w.heap.size + 3, 16 + m, none⟩ = some (.int .i64 0) := hz
        have hfzz : (wr.drewN nq).frozen? ⟨w.heap.size + 3, 16 + m, none⟩ = false := hfz
        clear hq2 hg16 hg7 hz hfz hq15 hg15 hg2 HR t3 xr1 xr2
        generalize wr.drewN nq = wz at *
        go_wp2_with fail
        go_quiet (first
          | (go_at_call 187; with_reducible refine (turned_17 _ _).mono ?_; rintro e w' ⟨rfl, k, rfl⟩; exact ⟨rfl, _, World.drewN_drewN ..⟩)
          | (go_at_call 187; with_reducible refine (turned_19 _ _).mono ?_; rintro e w' ⟨rfl, k, rfl⟩; exact ⟨rfl, _, World.drewN_drewN ..⟩))
        clear hq2z t10 yr1 yr2
        have S1 := nw_bound (rr x15 7 ^^^ rr x15 18 ^^^ (x15 >>> 3))
        have S2 := nw_bound (rr x2 17 ^^^ rr x2 19 ^^^ (x2 >>> 10))
        go_wp2_with fail
        go_region
        all_goals go_wp2
        all_goals go_roundw
        case rel =>
          refine ⟨16 + m + 1, by omega, by go_num, ?_⟩
          rw [HN.out, sum4_mod]
          exact (HR2.out.drewN _).put (16 + m) hlk hk64 _
        case measure => simp [intOf]; omega
    · obtain rfl : k = 64 := by omega
      have h10 := HR.out.wds.cell 0
      have h11 := HR.out.wds.cell 1
      have h12 := HR.out.wds.cell 2
      have h13 := HR.out.wds.cell 3
      have h14 := HR.out.wds.cell 4
      have h15 := HR.out.wds.cell 5
      have h16 := HR.out.wds.cell 6
      have h17 := HR.out.wds.cell 7
      simp only [Wi, S8.list, List.map_cons, List.map_nil, List.getElem?_cons_zero, List.getElem?_cons_succ] at h10 h11 h12 h13 h14 h15 h16 h17
      go_wp2_with fail
      have HD := Lib.hid HR.out.drew
      refine wp_region_held_drew (S := fun w' => w'.cell? ⟨w.heap.size + 1, 0, none⟩ = some (.int .i64 (nw s.a)) ∧ w'.cell? ⟨w.heap.size + 1, 1, none⟩ = some (.int .i64 (nw s.b)) ∧ w'.cell? ⟨w.heap.size + 1, 2, none⟩ = some (.int .i64 (nw s.c)) ∧ w'.cell? ⟨w.heap.size + 1, 3, none⟩ = some (.int .i64 (nw s.d)) ∧
        w'.cell? ⟨w.heap.size + 1, 4, none⟩ = some (.int .i64 (nw s.e)) ∧ w'.cell? ⟨w.heap.size + 1, 5, none⟩ = some (.int .i64 (nw s.f)) ∧ w'.cell? ⟨w.heap.size + 1, 6, none⟩ = some (.int .i64 (nw s.g)) ∧ w'.cell? ⟨w.heap.size + 1, 7, none⟩ = some (.int .i64 (nw s.h))) (by kernel_rfl) ?_ (fun hHeld => ?_)
      · exact rt_cells HD.out
      clear h10 h11 h12 h13 h14 h15 h16 h17
      refine wpAnyH_take (i := 0) (v := ?_) (by simp only [List.getElem?_toArray, List.getElem?_cons_succ, List.getElem?_cons_zero]; rfl) (by kernel_rfl) (by kernel_rfl) (by kernel_rfl) (by exact fun _ _ _ h => h) (Or.inl ⟨by rfl, fun _ hSw => ?_⟩) (by assumption) ?_
      rotate_left
      · dsimp only at hSw
        go_simp
        first | done | with_reducible rfl
      try simp only [Act.put, List.setIfInBounds_toArray, List.set_cons_zero, List.set_cons_succ]
      refine wpAnyH_take (i := 1) (v := ?_) (by simp only [List.getElem?_toArray, List.getElem?_cons_succ, List.getElem?_cons_zero]; rfl) (by kernel_rfl) (by kernel_rfl) (by kernel_rfl) (by exact fun _ _ _ h => h) (Or.inl ⟨by rfl, fun _ hSw => ?_⟩) (by assumption) ?_
      rotate_left
      · dsimp only at hSw
        go_simp
        first | done | with_reducible rfl
      try simp only [Act.put, List.setIfInBounds_toArray, List.set_cons_zero, List.set_cons_succ]
      refine wpAnyH_take (i := 2) (v := ?_) (by simp only [List.getElem?_toArray, List.getElem?_cons_succ, List.getElem?_cons_zero]; rfl) (by kernel_rfl) (by kernel_rfl) (by kernel_rfl) (by exact fun _ _ _ h => h) (Or.inl ⟨by rfl, fun _ hSw => ?_⟩) (by assumption) ?_
      rotate_left
      · dsimp only at hSw
        go_simp
        first | done | with_reducible rfl
      try simp only [Act.put, List.setIfInBounds_toArray, List.set_cons_zero, List.set_cons_succ]
      refine wpAnyH_take (i := 3) (v := ?_) (by simp only [List.getElem?_toArray, List.getElem?_cons_succ, List.getElem?_cons_zero]; rfl) (by kernel_rfl) (by kernel_rfl) (by kernel_rfl) (by exact fun _ _ _ h => h) (Or.inl ⟨by rfl, fun _ hSw => ?_⟩) (by assumption) ?_
      rotate_left
      · dsimp only at hSw
        go_simp
        first | done | with_reducible rfl
      try simp only [Act.put, List.setIfInBounds_toArray, List.set_cons_zero, List.set_cons_succ]
      refine wpAnyH_take (i := 4) (v := ?_) (by simp only [List.getElem?_toArray, List.getElem?_cons_succ, List.getElem?_cons_zero]; rfl) (by kernel_rfl) (by kernel_rfl) (by kernel_rfl) (by exact fun _ _ _ h => h) (Or.inl ⟨by rfl, fun _ hSw => ?_⟩) (by assumption) ?_
      rotate_left
      · dsimp only at hSw
        go_simp
        first | done | with_reducible rfl
      try simp only [Act.put, List.setIfInBounds_toArray, List.set_cons_zero, List.set_cons_succ]
      refine wpAnyH_take (i := 5) (v := ?_) (by simp only [List.getElem?_toArray, List.getElem?_cons_succ, List.getElem?_cons_zero]; rfl) (by kernel_rfl) (by kernel_rfl) (by kernel_rfl) (by exact fun _ _ _ h => h) (Or.inl ⟨by rfl, fun _ hSw => ?_⟩) (by assumption) ?_
      rotate_left
      · dsimp only at hSw
        go_simp
        first | done | with_reducible rfl
      try simp only [Act.put, List.setIfInBounds_toArray, List.set_cons_zero, List.set_cons_succ]
      refine wpAnyH_take (i := 6) (v := ?_) (by simp only [List.getElem?_toArray, List.getElem?_cons_succ, List.getElem?_cons_zero]; rfl) (by kernel_rfl) (by kernel_rfl) (by kernel_rfl) (by exact fun _ _ _ h => h) (Or.inl ⟨by rfl, fun _ hSw => ?_⟩) (by assumption) ?_
      rotate_left
      · dsimp only at hSw
        go_simp
        first | done | with_reducible rfl
      try simp only [Act.put, List.setIfInBounds_toArray, List.set_cons_zero, List.set_cons_succ]
      refine wpAnyH_take (i := 7) (v := ?_) (by simp only [List.getElem?_toArray, List.getElem?_cons_succ, List.getElem?_cons_zero]; rfl) (by kernel_rfl) (by kernel_rfl) (by kernel_rfl) (by exact fun _ _ _ h => h) (Or.inl ⟨by rfl, fun _ hSw => ?_⟩) (by assumption) ?_
      rotate_left
      · dsimp only at hSw
        go_simp
        first | done | with_reducible rfl
      try simp only [Act.put, List.setIfInBounds_toArray, List.set_cons_zero, List.set_cons_succ]
      refine wpAnyH_take (i := 8) (v := ?_) (by simp only [List.getElem?_toArray, List.getElem?_cons_succ, List.getElem?_cons_zero]; rfl) (by kernel_rfl) (by kernel_rfl) (by kernel_rfl) (by exact fun _ _ _ h => h) (Or.inl ⟨by rfl, fun _ hSw => ?_⟩) (by assumption) ?_
      rotate_left
      · dsimp only at hSw
        go_simp
        first | done | with_reducible rfl
      try simp only [Act.put, List.setIfInBounds_toArray, List.set_cons_zero, List.set_cons_succ]
      refine wpAnyH_take (i := 9) (v := ?_) (by simp only [List.getElem?_toArray, List.getElem?_cons_succ, List.getElem?_cons_zero]; rfl) (by kernel_rfl) (by kernel_rfl) (by kernel_rfl) (by exact fun _ _ _ h => h) (Or.inl ⟨by rfl, fun _ hSw => ?_⟩) (by assumption) ?_
      rotate_left
      · dsimp only at hSw
        go_simp
        first | done | with_reducible rfl
      try simp only [Act.put, List.setIfInBounds_toArray, List.set_cons_zero, List.set_cons_succ]
      refine wpAnyH_take (i := 10) (v := ?_) (by simp only [List.getElem?_toArray, List.getElem?_cons_succ, List.getElem?_cons_zero]; rfl) (by kernel_rfl) (by kernel_rfl) (by kernel_rfl) (by exact fun _ _ _ h => h) (Or.inl ⟨by rfl, fun _ hSw => ?_⟩) (by assumption) ?_
      rotate_left
      · dsimp only at hSw
        go_simp
        first | done | with_reducible rfl
      try simp only [Act.put, List.setIfInBounds_toArray, List.set_cons_zero, List.set_cons_succ]
      refine wpAnyH_take (i := 11) (v := ?_) (by simp only [List.getElem?_toArray, List.getElem?_cons_succ, List.getElem?_cons_zero]; rfl) (by kernel_rfl) (by kernel_rfl) (by kernel_rfl) (by exact fun _ _ _ h => h) (Or.inl ⟨by rfl, fun _ hSw => ?_⟩) (by assumption) ?_
      rotate_left
      · dsimp only at hSw
        go_simp
        first | done | with_reducible rfl
      try simp only [Act.put, List.setIfInBounds_toArray, List.set_cons_zero, List.set_cons_succ]
      refine wpAnyH_take (i := 12) (v := ?_) (by simp only [List.getElem?_toArray, List.getElem?_cons_succ, List.getElem?_cons_zero]; rfl) (by kernel_rfl) (by kernel_rfl) (by kernel_rfl) (by exact fun _ _ _ h => h) (Or.inl ⟨by rfl, fun _ hSw => ?_⟩) (by assumption) ?_
      rotate_left
      · dsimp only at hSw
        go_simp
        first | done | with_reducible rfl
      try simp only [Act.put, List.setIfInBounds_toArray, List.set_cons_zero, List.set_cons_succ]
      refine wpAnyH_take (i := 13) (v := ?_) (by simp only [List.getElem?_toArray, List.getElem?_cons_succ, List.getElem?_cons_zero]; rfl) (by kernel_rfl) (by kernel_rfl) (by kernel_rfl) (by exact fun _ _ _ h => h) (Or.inl ⟨by rfl, fun _ hSw => ?_⟩) (by assumption) ?_
      rotate_left
      · dsimp only at hSw
        go_simp
        first | done | with_reducible rfl
      try simp only [Act.put, List.setIfInBounds_toArray, List.set_cons_zero, List.set_cons_succ]
      refine wpAnyH_take (i := 14) (v := ?_) (by simp only [List.getElem?_toArray, List.getElem?_cons_succ, List.getElem?_cons_zero]; rfl) (by kernel_rfl) (by kernel_rfl) (by kernel_rfl) (by exact fun _ _ _ h => h) (Or.inl ⟨by rfl, fun _ hSw => ?_⟩) (by assumption) ?_
      rotate_left
      · dsimp only at hSw
        go_simp
        first | done | with_reducible rfl
      try simp only [Act.put, List.setIfInBounds_toArray, List.set_cons_zero, List.set_cons_succ]
      refine wpAnyH_take (i := 15) (v := ?_) (by simp only [List.getElem?_toArray, List.getElem?_cons_succ, List.getElem?_cons_zero]; rfl) (by kernel_rfl) (by kernel_rfl) (by kernel_rfl) (by exact fun _ _ _ h => h) (Or.inl ⟨by rfl, fun _ hSw => ?_⟩) (by assumption) ?_
      rotate_left
      · dsimp only at hSw
        go_simp
        first | done | with_reducible rfl
      try simp only [Act.put, List.setIfInBounds_toArray, List.set_cons_zero, List.set_cons_succ]
      refine wpAnyH_take (i := 16) (v := ?_) (by simp only [List.getElem?_toArray, List.getElem?_cons_succ, List.getElem?_cons_zero]; rfl) (by kernel_rfl) (by kernel_rfl) (by kernel_rfl) (by exact fun _ _ _ h => h) (Or.inl ⟨by rfl, fun _ hSw => ?_⟩) (by assumption) ?_
      rotate_left
      · dsimp only at hSw
        go_simp
        first | done | with_reducible rfl
      try simp only [Act.put, List.setIfInBounds_toArray, List.set_cons_zero, List.set_cons_succ]
      refine wpAnyH_take (i := 17) (v := ?_) (by simp only [List.getElem?_toArray, List.getElem?_cons_succ, List.getElem?_cons_zero]; rfl) (by kernel_rfl) (by kernel_rfl) (by kernel_rfl) (by exact fun _ _ _ h => h) (Or.inl ⟨by rfl, fun _ hSw => ?_⟩) (by assumption) ?_
      rotate_left
      · dsimp only at hSw
        go_simp
        first | done | with_reducible rfl
      try simp only [Act.put, List.setIfInBounds_toArray, List.set_cons_zero, List.set_cons_succ]
      refine wpAnyH_take (i := 18) (v := ?_) (by simp only [List.getElem?_toArray, List.getElem?_cons_succ, List.getElem?_cons_zero]; rfl) (by kernel_rfl) (by kernel_rfl) (by kernel_rfl) (by exact fun _ _ _ h => h) (Or.inl ⟨by rfl, fun _ hSw => ?_⟩) (by assumption) ?_
      rotate_left
      · dsimp only at hSw
        go_simp
        first | done | with_reducible rfl
      try simp only [Act.put, List.setIfInBounds_toArray, List.set_cons_zero, List.set_cons_succ]
      refine wpAnyH_take (i := 19) (v := ?_) (by simp only [List.getElem?_toArray, List.getElem?_cons_succ, List.getElem?_cons_zero]; rfl) (by kernel_rfl) (by kernel_rfl) (by kernel_rfl) (by exact fun _ _ _ h => h) (Or.inl ⟨by rfl, fun _ hSw => ?_⟩) (by assumption) ?_
      rotate_left
      · dsimp only at hSw
        go_simp
        first | done | with_reducible rfl
      try simp only [Act.put, List.setIfInBounds_toArray, List.set_cons_zero, List.set_cons_succ]
      refine four_boxes_start _ _ (fun w' => RT w.heap.size w w' H0 ks s (schedN bs 64)) (w.heap.size + 4) (pairs s) (fun j => 117 + 5 * j) (by kernel_rfl) (of_decide_eq_true (by kernel_rfl)) HD.out (fun _ h => rt_cells h) (fun _ h => by have := h.sch.lt; omega) (fun _ h => h.alloc _) (fun _ _ p h hp hO => h.only hp hO)
        (fun j hj => match j, hj with
          | 0, _ => ⟨_, rfl, rfl, rfl, rfl⟩
          | 1, _ => ⟨_, rfl, rfl, rfl, rfl⟩
          | 2, _ => ⟨_, rfl, rfl, rfl, rfl⟩
          | 3, _ => ⟨_, rfl, rfl, rfl, rfl⟩)
        (fun j hj => match j, hj with
          | 0, _ => ⟨_, rfl, rfl, rfl, rfl⟩
          | 1, _ => ⟨_, rfl, rfl, rfl, rfl⟩
          | 2, _ => ⟨_, rfl, rfl, rfl, rfl⟩
          | 3, _ => ⟨_, rfl, rfl, rfl, rfl⟩)
        (fun j hj => match j, hj with
          | 0, _ => ⟨by decide, rfl, rfl, Wi_oneCell _⟩
          | 1, _ => ⟨by decide, rfl, rfl, Wi_oneCell _⟩
          | 2, _ => ⟨by decide, rfl, rfl, Wi_oneCell _⟩
          | 3, _ => ⟨by decide, rfl, rfl, Wi_oneCell _⟩)
        (by decide +kernel) ?_
      clear HD hHeld HR
      intro w2 p hR2 hp hpd
      simp only [Act.put, List.setIfInBounds_toArray, List.set_cons_zero, List.set_cons_succ]
      have HB := Lib.hid (RB.mk hR2 (hp 0 (by omega)).2 (hp 1 (by omega)).2 (hp 2 (by omega)).2 (hp 3 (by omega)).2 (t := s))
      have HF := Lib.hid (Four.mk (hp 0 (by omega)).1 (hp 1 (by omega)).1 (hp 2 (by omega)).1 (hp 3 (by omega)).1 (hpd 0 1 (by omega) (by omega) (by omega)) (hpd 0 2 (by omega) (by omega) (by omega)) (hpd 0 3 (by omega) (by omega) (by omega)) (hpd 1 2 (by omega) (by omega) (by omega)) (hpd 1 3 (by omega) (by omega) (by omega)) (hpd 2 3 (by omega) (by omega) (by omega)))
      clear hR2 hp hpd
      generalize p 0 = p0 at *
      generalize p 1 = p1 at *
      generalize p 2 = p2 at *
      generalize p 3 = p3 at *
      go_wp2_with fail
      go_loopw [15] (fun iv wr => ∃ k : Nat, k ≤ 64 ∧ iv = .int .i64 k ∧ RB w.heap.size w wr H0 ks s (schedN bs 64) p0 p1 p2 p3 (steps8 ks (sched bs) s k)) (fun iv _ => 64 - (intOf iv).toNat)
      case atStart => exact ⟨0, by omega, rfl, HB.out⟩
      case round =>
        clear HB hk hk64
        obtain ⟨k, hk, rfl, hr⟩ := hrel
        have HB := Lib.hid hr
        clear hr
        by_cases hk64 : k < 64
        · have hS : steps8 ks (sched bs) s (k + 1) = step8 (steps8 ks (sched bs) s k) (ks.getD k 0) ((sched bs).getD k 0) := rfl
          have HS := Lib.hid hS
          clear hS
          have f0 : wr.cell? ⟨w.heap.size, 8 + k, none⟩ = some (.int .i64 (nw (ks.getD k 0))) := by
            rw [HB.out.rt.tab.cell, List.getElem?_append_right (by rw [Wi_length]; omega), Wi_length, hH, Nat.add_sub_cancel_left, Wi_getD (by omega)]
          have f1 : wr.cell? ⟨w.heap.size + 1 + 1 + 1, k, none⟩ = some (.int .i64 (nw ((sched bs).getD k 0))) := by
            rw [← schedN_all]
            exact (HB.out.rt.sch.cell k).trans (parti_get (by rw [schedN_length]; omega))
          generalize ks.getD k 0 = kc at f0 HS
          generalize (sched bs).getD k 0 = wc at f1 HS
          obtain ⟨t, ht⟩ : ∃ t, t = steps8 ks (sched bs) s k := ⟨_, rfl⟩
          rw [← ht] at HB HS
          clear ht
          obtain ⟨a, b, c, d, e, f, g2, h2⟩ := t
          obtain ⟨a0, a1⟩ := pair_cell HB.out.A
          obtain ⟨c0, c1⟩ := pair_cell HB.out.C
          obtain ⟨e0, e1⟩ := pair_cell HB.out.E
          obtain ⟨g0, g1⟩ := pair_cell HB.out.G
          have hki : (k : Int) < 64 := by omega
          have hk0 : (0 : Int) ≤ (k : Int) := by omega
          have ne := nw_bound e
          have nef := nw_bound (e &&& f)
          have neg := nw_bound (~~~e &&& g2)
          have na1 := and_i64 e f
          have nn1 := not_i64 e
          have na2 := and_i64 (~~~e) g2
          have na3 := pick_sum e f g2
          have nb1 := and_i64 a b
          have nb2 := and_i64 a c
          have nb3 := and_i64 b c
          have nb4 := or_i64 (a &&& b) (a &&& c)
          have nb5 := or_i64 ((a &&& b) ||| (a &&& c)) (b &&& c)
          have nb6 := most_or a b c
          go_wp2_with fail
          clear na1 nn1 na2 na3 nb1 nb2 nb3 nb4 nb5 nb6 nef neg
          have xe1 := xor_i64 (rr e 6) (rr e 11)
          have xe2 := xor_i64 (rr e 6 ^^^ rr e 11) (rr e 25)
          have nh := nw_bound h2
          have nu := nw_bound (rr e 6 ^^^ rr e 11 ^^^ rr e 25)
          have nv := nw_bound ((e &&& f) ^^^ (~~~e &&& g2))
          have nk := nw_bound kc
          have nwc := nw_bound wc
          go_quiet (first
            | (go_at_call 187; with_reducible refine (turned_6 _ _).mono ?_; rintro e w' ⟨rfl, k, rfl⟩; exact ⟨rfl, _, World.drewN_drewN ..⟩)
            | (go_at_call 187; with_reducible refine (turned_11 _ _).mono ?_; rintro e w' ⟨rfl, k, rfl⟩; exact ⟨rfl, _, World.drewN_drewN ..⟩)
            | (go_at_call 187; with_reducible refine (turned_25 _ _).mono ?_; rintro e w' ⟨rfl, k, rfl⟩; exact ⟨rfl, _, World.drewN_drewN ..⟩))
          have HB2 := Lib.hid (HB.out.drewN nq)
          clear HB a0 a1 c0 c1 e0 e1 g0 g1 f0 f1 xe1 xe2
          generalize wr.drewN nq = wz at *
          obtain ⟨a0, a1⟩ := pair_cell HB2.out.A
          have xa1 := xor_i64 (rr a 2) (rr a 13)
          have xa2 := xor_i64 (rr a 2 ^^^ rr a 13) (rr a 22)
          have nm := nw_bound ((a &&& b) ^^^ (a &&& c) ^^^ (b &&& c))
          have nt := nw_bound (rr a 2 ^^^ rr a 13 ^^^ rr a 22)
          go_wp2_with fail
          go_quiet (first
            | (go_at_call 187; with_reducible refine (turned_2 _ _).mono ?_; rintro e w' ⟨rfl, k, rfl⟩; exact ⟨rfl, _, World.drewN_drewN ..⟩)
            | (go_at_call 187; with_reducible refine (turned_13 _ _).mono ?_; rintro e w' ⟨rfl, k, rfl⟩; exact ⟨rfl, _, World.drewN_drewN ..⟩)
            | (go_at_call 187; with_reducible refine (turned_22 _ _).mono ?_; rintro e w' ⟨rfl, k, rfl⟩; exact ⟨rfl, _, World.drewN_drewN ..⟩))
          have HB3 := Lib.hid (HB2.out.drewN nq)
          clear HB2 a0 a1 xa1 xa2
          generalize wz.drewN nq = wy at *
          obtain ⟨a0, a1⟩ := pair_cell HB3.out.A
          obtain ⟨c0, c1⟩ := pair_cell HB3.out.C
          obtain ⟨e0, e1⟩ := pair_cell HB3.out.E
          obtain ⟨g0, g1⟩ := pair_cell HB3.out.G
          have nd := nw_bound d
          have i72 : (Tryz.prog.info? 268).map (·.size) = some 2 := by kernel_rfl
          have I72 := Lib.hid i72
          clear i72
          go_upto_region 19 with (refine wpList_store_blk rfl 268 (.tmp 14) (.tmp 208) rfl p3 0 (Wi [f, g2]) rfl rfl HB3.out.G (by simp [Wi_length]) (I72.out.trans (by simp [Wi_length])) (Wi_oneCell _) ?_; intro w5 hA hO; rw [over_whole (by simp [Wi_length])] at hA; have HB5 := Lib.hid (HB3.out.putG HF.out hA hO); clear hA hO)
          obtain ⟨a0', a1'⟩ := pair_cell HB5.out.A
          obtain ⟨c0', c1'⟩ := pair_cell HB5.out.C
          obtain ⟨e0', e1'⟩ := pair_cell HB5.out.E
          clear HB3 a0 a1 c0 c1 e0 e1 g0 g1
          have q1 := sum6_mod d h2 (rr e 6 ^^^ rr e 11 ^^^ rr e 25) ((e &&& f) ^^^ (~~~e &&& g2)) kc wc
          go_upto_region 20 with (refine wpList_store_blk rfl 268 (.tmp 13) (.tmp 216) rfl p2 0 (Wi [_, e]) rfl rfl HB5.out.E (by simp [Wi_length]) (I72.out.trans (by simp [Wi_length])) (Wi_oneCell _) ?_; intro w6 hA hO; rw [over_whole (by simp [Wi_length])] at hA; have HB6 := Lib.hid (HB5.out.putE HF.out hA hO); clear hA hO)
          obtain ⟨a0, a1⟩ := pair_cell HB6.out.A
          obtain ⟨c0, c1⟩ := pair_cell HB6.out.C
          clear HB5 a0' a1' c0' c1' e0' e1' q1
          have q2 := sum7_mod h2 (rr e 6 ^^^ rr e 11 ^^^ rr e 25) ((e &&& f) ^^^ (~~~e &&& g2)) kc wc (rr a 2 ^^^ rr a 13 ^^^ rr a 22) ((a &&& b) ^^^ (a &&& c) ^^^ (b &&& c))
          go_upto_region 21 with (refine wpList_store_blk rfl 268 (.tmp 12) (.tmp 221) rfl p1 0 (Wi [b, c]) rfl rfl HB6.out.C (by simp [Wi_length]) (I72.out.trans (by simp [Wi_length])) (Wi_oneCell _) ?_; intro w7 hA hO; rw [over_whole (by simp [Wi_length])] at hA; have HB7 := Lib.hid (HB6.out.putC HF.out hA hO); clear hA hO)
          obtain ⟨a0', a1'⟩ := pair_cell HB7.out.A
          clear HB6 a0 a1 c0 c1
          go_wp2_with (refine wpList_store_blk rfl 268 (.tmp 11) (.tmp 228) rfl p0 0 (Wi [_, a]) rfl rfl HB7.out.A (by simp [Wi_length]) (I72.out.trans (by simp [Wi_length])) (Wi_oneCell _) ?_; intro w8 hA hO; rw [over_whole (by simp [Wi_length])] at hA; have HB8 := Lib.hid (HB7.out.putA HF.out hA hO); clear hA hO)
          go_roundw
          case rel =>
            (repeat apply Exists.intro)
            refine And.intro ?_ rfl
            refine ⟨k + 1, by omega, by go_num, ?_⟩
            rw [HS.out]
            exact HB8.out
          case measure => simp [intOf]; omega
        · obtain rfl : k = 64 := by omega
          obtain ⟨t, ht⟩ : ∃ t, t = steps8 ks (sched bs) s 64 := ⟨_, rfl⟩
          rw [← ht] at HB
          have HT := Lib.hid ht
          clear ht hk hk64
          obtain ⟨a0, a1⟩ := pair_cell HB.out.A
          obtain ⟨c0, c1⟩ := pair_cell HB.out.C
          obtain ⟨e0, e1⟩ := pair_cell HB.out.E
          obtain ⟨g0, g1⟩ := pair_cell HB.out.G
          have i26 : (Tryz.prog.info? 35).map (·.size) = some 8 := by kernel_rfl
          have I26 := Lib.hid i26
          clear i26
          go_wp2_with (refine wpList_store_blk rfl 35 (.tmp 20) (.tmp 245) rfl wr.heap.size 0 (Wi t.list) rfl rfl (Blk.new wr 35 (List.replicate 8 (.int .i64 0))) (by simp [Wi_length, S8.list]) (I26.out.trans (by simp [Wi_length, S8.list])) (Wi_oneCell _) ?_; intro w9 hA hO; rw [over_whole (by simp [Wi_length, S8.list])] at hA; have HA := Lib.hid hA; have HR9 := Lib.hid ((HB.out.rt.alloc (.cells (List.replicate 8 (Value.int .i64 0)).toArray 35)).only (by have := HB.out.rt.sch.lt; omega) hO); clear hA hO)
          have hq4 : w.heap.size + 4 ≤ wr.heap.size := by have := HB.out.rt.sch.lt; omega
          generalize wr.heap.size = q at *
          clear HB a0 a1 c0 c1 e0 e1 g0 g1 HF
          go_loopw [21] (fun i wz => ∃ j : Nat, j ≤ 8 ∧ i = .int .i64 j ∧ RT w.heap.size w wz H0 ks s (schedN bs 64) ∧ Blk wz q 35 (Wi (mix8 t s j))) (fun i _ => 8 - (intOf i).toNat)
          case atStart => exact ⟨0, by omega, rfl, HR9.out, HA.out⟩
          case round =>
            clear HR9 HA
            obtain ⟨j, hj, rfl, hrj, hbj⟩ := hrel
            have HRJ := Lib.hid hrj
            have HBJ := Lib.hid hbj
            clear hrj hbj
            by_cases hj8 : j < 8
            · have hc1 := HRJ.out.wds.cell j
              rw [Wi_getD (by simp [S8.list]; omega)] at hc1
              have hc2 : wr.cell? ⟨q, j, none⟩ = some (.int .i64 (nw (t.list.getD j 0))) := mixi_cell HBJ.out hj8
              have hst := Lib.hid (fun W h => mixi_step (w := W) (p := q) (s := t) (t := s) h hj8)
              have hfz := HBJ.out.frozen j
              generalize s.list.getD j 0 = x at hc1 hst
              generalize t.list.getD j 0 = y at hc2 hst
              have nx := nw_bound x
              have ny := nw_bound y
              have hm := sum2_mod y x
              have hji : (j : Int) < 8 := by omega
              have hj0 : (0 : Int) ≤ (j : Int) := by omega
              go_wp2_with fail
              go_still_tail 10, (by kernel_rfl)
              change wpList _ _ _ _ _ wr.drew
              go_wp2
              go_roundw
              case rel =>
                refine ⟨j + 1, by omega, by go_num, ?_, ?_⟩
                · exact HRJ.out.drew.only hq4 ((Only.refl _ _).setCell (p := ⟨q, j, none⟩) (.inl (by simp)) _)
                · exact hst.out _ HBJ.out.drew
              case measure => simp [intOf]; omega
            · obtain rfl : j = 8 := by omega
              have e8 : mix8 t s 8 = (turn8 ks s bs).list := by
                rw [show mix8 t s 8 = (add8 t s).list from rfl, add8_comm, HT.out]
                rfl
              rw [e8] at HBJ
              have hl8 : (Wi (turn8 ks s bs).list).length = 8 := by simp [Wi_length, S8.list]
              clear e8 hj8 hj
              obtain ⟨L, hL⟩ : ∃ L, L = (turn8 ks s bs).list := ⟨_, rfl⟩
              rw [← hL] at HBJ hl8
              have HL := Lib.hid hL
              clear hL
              go_wp2_with (first
                | (refine wpList_load_mid rfl 35 (.tmp 20) rfl q 0 rfl _ _ HBJ.out.range Tryz.underlying35 rfl (I26.out.trans (by rw [hl8])) ?_)
                | (refine wpList_store_blk rfl 35 (.tmp 6) (.tmp 260) rfl (w.heap.size + 1 + 1) 0 (Wi L) rfl rfl HRJ.out.out (by simp [hl8]) (I26.out.trans (by simp [hl8])) (Wi_oneCell _) ?_; intro wF hF hO))
              rw [over_whole (by simp [hl8])] at hF
              refine bodyPost_ret (v := .agg (Wi L).toArray) ?_ rfl ⟨by rw [HL.out], ?_⟩
              · exact ret_cell rfl rfl (run_loadVar_mid _ _ 0 35 _ _ hF.range Tryz.underlying35 rfl (I26.out.trans (by rw [hl8])))
              · exact HRJ.out.bel.trans (hO.below (B := w.heap.size) (by have := HRJ.out.sch.lt; omega) (by simp; omega))

end Go.Proofs.YtfkdpndcoegfpaaGreatDoor
end

/-
  The document's Sum, by the document's table: the plain digest. Condition: a text of at most 4000 bytes.
-/

section
set_option maxRecDepth 100000
set_option linter.unusedSimpArgs false
set_option linter.unusedVariables false
namespace Go.Proofs.YtfkdpndcoegfpaaGreatDoor
open Go.RowKit

theorem own_shape {w : World} {B e n : Nat} {v : Value} {xs : List Value} (h : w.ownsRow B e 1 v n xs) (hn : 0 < n) : ∃ g c, v = .slice (some ⟨g, 0, none⟩) n c ∧ B ≤ g ∧ n ≤ c ∧ c ≤ maxLen := by
  have h0 := h.1
  rcases h.2 with ⟨rfl, h1⟩ | ⟨g, cap, cur, rfl, h1, _, h2, h3, _, _⟩
  · subst h1
    simp at h0
    omega
  · exact ⟨g, cap, rfl, h1, h2, h3⟩

/-- What the document's Sum keeps in memory. -/
structure SM (w0 w : World) (v : Value) (m : List B8) : Prop where
  tab : Blk w w0.heap.size 38 (Wi start8.list ++ Wi Ks)
  res : Blk w (w0.heap.size + 1) 184 (List.replicate 32 (.int .u8 0))
  own : w.ownsRow (w0.heap.size + 2) 5 1 v m.length (Vb m)
  bel : Below w0.heap.size w0 w
theorem SM.alloc {w0 w : World} {v : Value} {m : List B8} (h : SM w0 w v m) (o : Obj) : SM w0 (w.alloc o) v m :=
  ⟨h.tab.alloc o, h.res.alloc o, h.own.alloc o, h.bel.alloc (by have := h.tab.lt; omega) o⟩
theorem SM.grown {w0 w w' : World} {v v' : Value} {m x : List B8} (h : SM w0 w v m) (hg : w.grownBy w' v.ownBlock) (ho : w'.ownsRow (w0.heap.size + 2) 5 1 v' (m ++ x).length (Vb (m ++ x))) : SM w0 w' v' (m ++ x) := by
  have ge := own_ge h.own
  refine ⟨h.tab.grown hg (fun e => ?_), h.res.grown hg (fun e => ?_), ho, h.bel.grown hg h.bel.size (fun q hq => by have := ge q hq; omega)⟩
  · have := ge _ e.symm; omega
  · have := ge _ e.symm; omega
theorem SM.only {w0 w w' : World} {v : Value} {m : List B8} {S : List Nat} (h : SM w0 w v m) (hO : Only S w w') (hS : ∀ k, k ∈ S → w0.heap.size + 2 ≤ k) (hv : ∀ k, v.ownBlock = some k → k ∉ S) : SM w0 w' v m := by
  have hl := h.res.lt
  refine ⟨h.tab.only hO (fun e => by have := hS _ e; omega), h.res.only hO (fun e => by have := hS _ e; omega), ownsRow_only h.own hO hv, h.bel.trans (hO.below (B := w0.heap.size) (by omega) (fun k hk => by have := hS k hk; omega))⟩
theorem SM.start (w : World) (g : Nat) (h : g = w.heap.size + 2) : SM w (((w.alloc (.cells (Wi start8.list ++ Wi Ks).toArray 38)).alloc (.cells (List.replicate 32 (Value.int .u8 0)).toArray 184)).alloc (.cells #[] 5)) (.slice (some ⟨g, 0, none⟩) 0 0) [] := by
  subst h
  have b0 := Blk.new w 38 (Wi start8.list ++ Wi Ks)
  have b1 := Blk.new (w.alloc (.cells (Wi start8.list ++ Wi Ks).toArray 38)) 184 (List.replicate 32 (Value.int .u8 0))
  have b2 := Blk.new ((w.alloc (.cells (Wi start8.list ++ Wi Ks).toArray 38)).alloc (.cells (List.replicate 32 (Value.int .u8 0)).toArray 184)) 5 []
  simp only [World.size_alloc] at b1 b2
  have ho := owned_of_blk (B := w.heap.size + 2) (k := 0) b2 (by omega) (by simp) (by unfold maxLen; simp)
  exact ⟨(b0.alloc _).alloc _, b1.alloc _, ho, (((Below.refl _ _).alloc (Nat.le_refl _) _).alloc (by simp) _).alloc (by simp; omega) _⟩
theorem gap_full (n : Nat) : (n + 1 + gap n + 8) % 64 = 0 := by unfold gap; omega
theorem gap_not {n z : Nat} (h : z < gap n) : (n + 1 + z + 8) % 64 ≠ 0 := by unfold gap at h; omega
theorem v128 : Vb (128#8 :: List.replicate 0 0#8) = [.int .u8 128] := by simp [Vb, nb]
theorem v0 : Vb [0#8] = [.int .u8 0] := by simp [Vb, nb]
theorem count_here (n i : Nat) (hi : i ≤ 7) : 8 * (n : Int) / 2 ^ (8 * i) % 256 = nb (BitVec.ofNat 8 (n * 8 / 2 ^ (56 - 8 * (7 - i)))) := by
  rw [show 56 - 8 * (7 - i) = 8 * i by omega, Nat.mul_comm n 8]
  unfold nb
  rw [BitVec.toNat_ofNat, Int.natCast_emod, Int.natCast_ediv, Int.natCast_mul, Int.natCast_pow]
  rfl
theorem rep_snoc (z : Nat) (x : B8) : List.replicate (z + 1) x = List.replicate z x ++ [x] := List.replicate_succ'

theorem chunk_cells {w0 w : World} {g cap n i : Nat} {m : List B8} (h : SM w0 w (.slice (some ⟨g, 0, none⟩) n cap) m) (hn : m.length = n) (hi : 64 * (i + 1) ≤ m.length) : ∀ j, j < 64 → w.cell? ⟨g, 64 * i + j, none⟩ = some (.int .u8 (nb ((chunk m i).getD j 0))) := by
  intro j hj
  have ho := h.own
  rw [hn] at ho
  rw [ho.cellAt (64 * i + j) (by omega), Vb_get, List.getElem?_eq_getElem (by omega)]
  unfold chunk
  rw [List.getD_eq_getElem?_getD, List.getElem?_take, if_pos hj, List.getElem?_drop, List.getElem?_eq_getElem (by omega)]
  rfl
theorem b4_byte (x : B32) (k : Nat) (hk : k < 4) : nw x / 2 ^ (24 - 8 * k) % 256 = nb ((b4 x).getD k 0) := by
  rw [div_u32, mod_u8]
  match k, hk with
  | 0, _ | 1, _ | 2, _ | 3, _ => simp [b4]
theorem b4_step (x : B32) (k : Nat) (hk : k < 4) : (b4 x).take (k + 1) = (b4 x).take k ++ [(b4 x).getD k 0] := by
  match k, hk with
  | 0, _ | 1, _ | 2, _ | 3, _ => rfl
theorem wpStill_load_mid {P : Program} {ops : Array Oper} {rest : List Oper} {op : Oper} {a : Act} {w : World} {Q : Act → Prop} (hgd : op.guard = none) (ty : TypeId) (x : Operand) (ho : op.op = .load ty x)
    (b o : Nat) (hx : a.eval x = .pointer (some ⟨b, o, none⟩)) (cs : List Value) (d : TypeDesc) (hc : w.rangeAt b o cs)
    (hu : P.underlying ty = some d) (hd : d.isRow = true) (hi : (P.info? ty).map (·.size) = some cs.length)
    (h : wpStill P ops w Q rest (a.put op.dst (.agg cs.toArray))) : wpStill P ops w Q (op :: rest) a := by
  refine wpStill_step (fun K hK => ?_)
  have hw : Region.wanted op (yielded ops a.tmps) = true := by unfold Region.wanted; rw [hgd]
  rw [if_pos hw]
  have hr : (execOp a.eval op).run P w = .ok (.value (.agg cs.toArray)) w := by
    unfold execOp
    simp only [ho, hx, Instr.loadAt, Instr.sureAddr, Sem.run_bind, Sem.run_pure, Result.andThen_ok, run_loadVar_mid w b o ty cs d hc hu hd hi]
  unfold Oper.still
  rw [hr, Oper.stillUpon_value]
  exact hK _ h
/-- What the last loops keep. -/
structure SO (w0 w : World) (P O : Nat) (s : S8) (l : List B8) : Prop where
  res : Blk w (w0.heap.size + 1) 184 (List.replicate 32 (.int .u8 0))
  wds : Blk w P 35 (Wi s.list)
  out : Blk w O 184 (partB l)
  bel : Below w0.heap.size w0 w
theorem SO.put {w0 w : World} {P O : Nat} {s : S8} {l : List B8} (h : SO w0 w P O s l) (hP : P < O) (hO : w0.heap.size + 1 < O) (hl : l.length < 32) (x : B8) (k : Nat) (hk : k = l.length) : SO w0 (w.setCell ⟨O, k, none⟩ (.int .u8 (nb x))) P O s (l ++ [x]) := by
  subst hk
  refine ⟨h.res.far (p := ⟨O, _, none⟩) (by simp; omega) _, h.wds.far (p := ⟨O, _, none⟩) (by simp; omega) _, ?_, h.bel.setCell (p := ⟨O, _, none⟩) (by simp; omega) _⟩
  rw [← partB_set hl]
  exact h.out.set_ _ _
theorem fullD_length (m : List B8) : (fullD m).length = m.length + 1 + gap m.length + 8 := by
  unfold fullD
  rw [List.length_append, endB_length]
  omega

set_option maxHeartbeats 2000000 in
set_option maxRecDepth 100000 in
theorem refsum_any (w : World) (A : Option Addr) (n c : Nat) (bs : List B8) (ht : Txt w w.heap.size A n c bs) (hn : n ≤ 4000) :
    Calls Tryz.prog 138 #[.agg (Wi start8.list ++ Wi Ks).toArray, .slice A n c] w fun e w' => e = .returned (.agg (Vb (sha Ks bs)).toArray) ∧ Below w.heap.size w w' := by
  obtain ⟨i0, hi, hz0, hz1, hz2⟩ := info_parts (show (Tryz.prog.info? 5).map (fun i => (i.zero, i.size, i.bytes)) = some (some (.int .u8 0), 1, 1) by kernel_rfl)
  have HI := Lib.hid (And.intro hi (And.intro hz0 (And.intro hz1 hz2)))
  have h0 := Lib.hid (SM.start w (w.heap.size + 2) rfl)
  have HT := Lib.hid ht
  clear hi hz0 hz1 hz2 ht
  go_enter Tryz.func138, Tryz.ntmps138
  go_upto_region 1 with fail
  go_cut [5] (fun v wx => SM w wx v bs)
  case first =>
    have hl := HT.out.len
    match A, HT with
    | none, HT =>
      obtain rfl : n = 0 := by
        rcases Nat.eq_zero_or_pos n with h | h
        · exact h
        · obtain ⟨g, o, h', _⟩ := HT.out.cells h
          cases h'
      obtain rfl := List.eq_nil_of_length_eq_zero hl
      go_wp2_with (at_builtin; refine wpList_append_own_none rfl (.tmp 12) (.tmp 13) 22 rfl (w.heap.size + 2) 5 i0 1 Tryz.underlying22 HI.out.1 (.slice (some ⟨w.heap.size + 1 + 1, 0, none⟩) 0 0) 0 [] rfl h0.out.own rfl ?_)
      go_meet
      exact h0.out
    | some a, HT =>
      go_wp2_with (at_builtin; refine wpList_append_own _ rfl (.tmp 12) (.tmp 13) 22 rfl (w.heap.size + 2) 5 i0 (.int .u8 0) 1 1 Tryz.underlying22 HI.out.1 HI.out.2.1 HI.out.2.2.1 HI.out.2.2.2 rfl (by decide) (.slice (some ⟨w.heap.size + 1 + 1, 0, none⟩) 0 0) 0 [] rfl h0.out.own a n c (Vb bs) rfl (by rw [Vb_length]; omega) (txt_cells (HT.out.below h0.out.bel (Nat.le_refl _))) (Vb_oneCell _) (by unfold maxLen; omega) (by omega) (by have := h0.out.res.lt; simp) ?_; intro v2 w2 ho2 hg2 _)
      go_meet
      refine h0.out.grown hg2 ?_
      rw [List.nil_append, hl]
      simpa using ho2
  case rest =>
    have HC := Lib.hid hcut
    clear h0 hcut
    have hl := HT.out.len
    go_wp2_with (at_builtin; refine wpList_append_own _ rfl (.tmp 15) (.tmp 16) 22 rfl (w.heap.size + 2) 5 i0 (.int .u8 0) 1 1 Tryz.underlying22 HI.out.1 HI.out.2.1 HI.out.2.2.1 HI.out.2.2.2 rfl (by decide) u5 bs.length (Vb bs) rfl (HC.out.own.alloc _) ⟨wc.heap.size, 0, none⟩ 1 1 [.int .u8 128] rfl rfl (new_one wc _ 5) (one_one _ _) (by unfold maxLen; omega) (by omega) (by have := HC.out.res.lt; simp; omega) ?_; intro v2 w2 ho2 hg2 _)
    have h2 : SM w w2 v2 (bs ++ 128#8 :: List.replicate 0 0#8) := (HC.out.alloc _).grown hg2 (by rw [Vb_append, List.length_append, v128]; exact ho2)
    obtain ⟨g, cap, rfl, hgB, hcap, hcm⟩ := own_shape h2.own (by simp)
    have H2 := Lib.hid h2
    clear h2 ho2 hg2 HC
    have e1 : (bs ++ 128#8 :: List.replicate 0 0#8).length = n + 1 := by simp [hl]
    rw [e1] at hcap H2 ⊢
    clear e1
    have hgap := gap_lt n
    have hgf := gap_full n
    go_loopw [5] (fun v wr => ∃ z g cap : Nat, z ≤ gap n ∧ v = .slice (some ⟨g, 0, none⟩) (n + 1 + z) cap ∧ n + 1 + z ≤ cap ∧ cap ≤ maxLen ∧ SM w wr v (bs ++ 128#8 :: List.replicate z 0#8)) (fun v _ => n + 1 + gap n - sliceLen v)
    case atStart => exact ⟨0, g, cap, by omega, rfl, hcap, hcm, H2.out⟩
    case round =>
      clear H2 hcap hcm hgB
      obtain ⟨z, g, cap, hz, rfl, hcap, hcm, hsm⟩ := hrel
      have HS := Lib.hid hsm
      clear hsm
      unfold maxLen at hcm
      by_cases hzg : z < gap n
      · have hne := gap_not hzg
        have hm2 : ((((n + 1 + z : Nat) : Int) + 8) % 64 != 0) = true := bne_iff_ne.2 (by omega)
        have hlz : (bs ++ 128#8 :: List.replicate z 0#8).length = n + 1 + z := by simp; omega
        have ho := HS.out.own
        rw [hlz] at ho
        have HO := Lib.hid ho
        have HLZ := Lib.hid hlz
        clear hlz ho
        go_wp2_with (at_builtin; go_loud (refine wpList_append_own _ rfl (.tmp 23) (.tmp 24) 22 rfl (w.heap.size + 2) 5 i0 (.int .u8 0) 1 1 Tryz.underlying22 HI.out.1 HI.out.2.1 HI.out.2.2.1 HI.out.2.2.2 rfl (by decide) (.slice (some ⟨g, 0, none⟩) (n + 1 + z) cap) (n + 1 + z) (Vb (bs ++ 128#8 :: List.replicate z 0#8)) rfl (HO.out.alloc _) ⟨wr.heap.size, 0, none⟩ 1 1 [.int .u8 0] rfl rfl (new_one wr _ 5) (one_one _ _) (by unfold maxLen; omega) (by omega) (by have := HS.out.res.lt; simp; omega) ?_); intro v2 w2 ho2 hg2 _)
        have h2 : SM w w2 v2 (bs ++ 128#8 :: List.replicate (z + 1) 0#8) := by
          have := (HS.out.alloc _).grown (x := [0#8]) hg2 (by rw [Vb_append, List.length_append, HLZ.out, v0]; exact ho2)
          rw [rep_snoc]
          simpa using this
        obtain ⟨g2, cap2, rfl, hgB, hcap2, hcm2⟩ := own_shape h2.own (by simp; omega)
        have hl2 : (bs ++ 128#8 :: List.replicate (z + 1) 0#8).length = n + 1 + (z + 1) := by simp; omega
        have H2 := Lib.hid h2
        rw [hl2] at hcap2 H2 ⊢
        clear h2 ho2 hg2 hl2
        go_wp2_with fail
        go_roundw
        case rel => exact ⟨z + 1, g2, cap2, by omega, rfl, hcap2, hcm2, H2.out⟩
        case measure => simp [sliceLen]; omega
      · obtain rfl : z = gap n := by omega
        have hm2 : (((n : Int) + 1 + (gap n : Int) + 8) % 64 != 0) = false := bne_eq_false_iff_eq.2 (by omega)
        have hpad : bs ++ 128#8 :: List.replicate (gap n) 0#8 = bs ++ pad n := rfl
        rw [hpad] at HS
        clear hpad
        go_wp2_with fail
        clear hm2
        go_loopw [6, 5] (fun iv v wr => ∃ k g cap : Nat, k ≤ 8 ∧ iv = .int .i64 ((k : Int) - 1) ∧ v = .slice (some ⟨g, 0, none⟩) (n + 1 + gap n + (8 - k)) cap ∧ n + 1 + gap n + (8 - k) ≤ cap ∧ SM w wr v (bs ++ pad n ++ count8 n (8 - k))) (fun iv _ _ => (intOf iv + 1).toNat)
        case atStart => exact ⟨8, g, cap, by omega, rfl, rfl, hcap, by simpa [count8] using HS.out⟩
        case round =>
          clear HS hcap hcm
          obtain ⟨k, g, cap, hk, rfl, rfl, hcap, hsm⟩ := hrel
          have HS := Lib.hid hsm
          clear hsm
          rcases Nat.eq_zero_or_pos k with rfl | hk0
          · have hfull : bs ++ pad n ++ count8 n (8 - 0) = fullD bs := by
              unfold fullD endB
              rw [hl, List.append_assoc]
            have hfl := fullD_length bs
            rw [hl] at hfl
            rw [hfull] at HS
            have hsh : n + 1 + gap n + (8 - 0) = (fullD bs).length := by omega
            rw [hsh] at HS hcap ⊢
            obtain ⟨q, hq⟩ : ∃ q, (fullD bs).length = 64 * q := ⟨(fullD bs).length / 64, by omega⟩
            have HFIN := Lib.hid (show sha Ks bs = outB (foldN Ks (fullD bs) q) 8 by unfold sha; rw [hq, Nat.mul_div_cancel_left q (by omega)])
            rw [hq] at HS hcap ⊢
            have HQ := Lib.hid hq
            have hqs : q ≤ 1000 := by omega
            have hq0 : 0 < q := by omega
            clear hfull hfl hsh hq
            generalize fullD bs = m at *
            have hgw : g < wr.heap.size := World.block_lt_of_cell? wr _ (chunk_cells HS.out HQ.out (i := 0) (by have := HQ.out; omega) 0 (by omega))
            have hr26 : wr.rangeAt w.heap.size 0 (Wi start8.list) := by
              have := HS.out.tab.rangeAt 0 8
              simpa [Wi, S8.list] using this
            have HR26 := Lib.hid hr26
            have i26 : (Tryz.prog.info? 35).map (·.size) = some 8 := by kernel_rfl
            have I26 := Lib.hid i26
            have i29 : (Tryz.prog.info? 38).map (·.size) = some 72 := by kernel_rfl
            have I29 := Lib.hid i29
            have hT72 : (Wi start8.list ++ Wi Ks).length = 72 := by simp [Wi_length, S8.list, Ks, rootsZ]
            have HT72 := Lib.hid hT72
            have hneg : ((0 : Nat) : Int) - 1 < 0 := by omega
            clear hr26 i26 i29 hT72
            go_wp2_with (first
              | (refine wpList_load_mid rfl 35 (.tmp 40) rfl w.heap.size 0 rfl _ _ HR26.out Tryz.underlying35 rfl (I26.out.trans (by simp [Wi_length, S8.list])) ?_)
              | (refine wpList_store_blk rfl 35 (.tmp 7) (.tmp 41) rfl wr.heap.size 0 (Wi start8.list) rfl rfl (Blk.new wr 35 (List.replicate 8 (.int .i64 0))) (by simp [Wi_length, S8.list]) (I26.out.trans (by simp [Wi_length, S8.list])) (Wi_oneCell _) ?_; intro w3 hA hO))
            rw [over_whole (by simp [Wi_length, S8.list])] at hA
            have hP2 : w.heap.size + 2 ≤ wr.heap.size := by have := HS.out.res.lt; omega
            have HS3 := Lib.hid ((HS.out.alloc (.cells (List.replicate 8 (Value.int .i64 0)).toArray 35)).only hO (by simp; omega) (by simp [Value.ownBlock]; omega))
            have HA := Lib.hid hA
            clear hA hO HS HR26
            generalize wr.heap.size = P at *
            go_loopw [8] (fun iv wz => ∃ i : Nat, i ≤ q ∧ iv = .int .i64 (64 * i) ∧ SM w wz (.slice (some ⟨g, 0, none⟩) (64 * q) cap) m ∧ Blk wz P 35 (Wi (foldN Ks m i).list)) (fun iv _ => 64 * q - (intOf iv).toNat)
            case atStart => exact ⟨0, by omega, rfl, HS3.out, HA.out⟩
            case round =>
              clear HS3 HA
              obtain ⟨i, hi, rfl, hsm, hbp⟩ := hrel
              have HS := Lib.hid hsm
              have HP := Lib.hid hbp
              clear hsm hbp
              by_cases hiq : i < q
              · have hi1 : 64 * (i : Int) < 64 * (q : Int) := by omega
                have hi2 : (64 * (i : Int) + 64) ≤ (cap : Int) := by omega
                go_wp2_with fail
                refine wp_region_still_tail 7 (by kernel_rfl) (by kernel_rfl) ?_
                simp only [List.take_succ_cons, List.take_zero, List.drop_succ_cons, List.drop_zero]
                refine wpStill_load_mid rfl 38 (.tmp 2) rfl w.heap.size 0 rfl _ _ (HS.out.tab.drew.range) Tryz.underlying38 rfl (I29.out.trans (by rw [HT72.out])) ?_
                refine wpStill_load_mid rfl 35 (.tmp 7) rfl P 0 rfl _ _ (HP.out.drew.range) Tryz.underlying35 rfl (I26.out.trans (by simp [Wi_length, S8.list])) ?_
                have hs1 : IntKind.i64.wrap (64 * (i : Int) + 64) = 64 * (i : Int) + 64 := IntWalk.i64_in _ (by omega)
                have hs2 : (0 : Int) ≤ 64 * (i : Int) + 64 := by omega
                have hs3 : (0 : Int) ≤ 64 * (i : Int) := by omega
                have hs4 : max (64 * (i : Int) + 64) 0 = 64 * (i : Int) + 64 := by omega
                have hs5 : (64 * (i : Int)).toNat = 64 * i := by omega
                have hs6 : (64 * (i : Int) + 64).toNat = 64 * i + 64 := by omega
                have hs7 : ¬ cap = 64 * i := by omega
                have hs8 : 64 * (i : Int) ≤ 64 * (i : Int) + 64 := by omega
                repeat still_step
                try refine wpStill_nil ?_
                change wpList _ _ _ _ _ wr.drew
                clear hs1 hs2 hs3 hs4 hs5 hs6 hs7 hs8
                have HS2 : Hid (SM w wr.drew (.slice (some ⟨g, 0, none⟩) (64 * q) cap) m) := Lib.hid ⟨HS.out.tab.drew, HS.out.res.drew, HS.out.own, HS.out.bel.drew⟩
                have HP2 := Lib.hid HP.out.drew
                clear HS HP
                generalize wr.drew = wd at *
                go_wp2_with fail
                refine (refturn_any wd start8.list Ks rfl rfl (foldN Ks m i) g (64 * i) (cap - 64 * i) (chunk m i) (chunk_cells HS2.out HQ.out (by have := HQ.out; omega))).mono ?_
                rintro e w4 ⟨rfl, hb4⟩
                have hgd := HP2.out.lt
                have hgg : g < wd.heap.size := World.block_lt_of_cell? wd _ (chunk_cells HS2.out HQ.out (i := 0) (by have := HQ.out; omega) 0 (by omega))
                have HS4 := Lib.hid (HS2.out.only (Only.of_below (S := []) hb4) (by simp) (by simp))
                have HP4 := Lib.hid (HP2.out.below hb4 hgd)
                clear hb4 HS2 HP2
                have HSt := Lib.hid (show foldN Ks m (i + 1) = turn8 Ks (foldN Ks m i) (chunk m i) from rfl)
                generalize turn8 Ks (foldN Ks m i) (chunk m i) = s2 at *
                go_wp2_with (refine wpList_store_blk rfl 35 (.tmp 7) (.tmp 55) rfl P 0 (Wi s2.list) rfl rfl HP4.out (by simp [Wi_length, S8.list]) (I26.out.trans (by simp [Wi_length, S8.list])) (Wi_oneCell _) ?_; intro w5 hA hO)
                rw [over_whole (by simp [Wi_length, S8.list])] at hA
                have HS5 := Lib.hid (HS4.out.only hO (by simp; omega) (by simp [Value.ownBlock]; omega))
                have HA := Lib.hid hA
                clear hA hO HS4 HP4
                go_wp2_with fail
                go_roundw
                case rel => exact ⟨i + 1, by omega, by go_num, HS5.out, by rw [HSt.out]; exact HA.out⟩
                case measure => simp [intOf]; omega
              · obtain rfl : i = q := by omega
                obtain ⟨s, hs⟩ : ∃ s, s = foldN Ks m i := ⟨_, rfl⟩
                rw [← hs] at HP HFIN
                have HW := Lib.hid (And.intro HS.out.res HS.out.bel)
                have hsz := HS.out.res.lt
                have hPl := HP.out.lt
                clear hs HS hgw hP2
                go_wp2_with fail
                have hso : SO w (wr.alloc (.cells (List.replicate 32 (Value.int .u8 0)).toArray 184)) P wr.heap.size s (outB s 0) := ⟨HW.out.1.alloc _, HP.out.alloc _, Blk.new wr _ _, HW.out.2.alloc (by omega) _⟩
                have HSO := Lib.hid hso
                clear hso HW HP
                generalize wr.heap.size = O at *
                go_loopw [10] (fun iv wz => ∃ i : Nat, i ≤ 8 ∧ iv = .int .i64 i ∧ SO w wz P O s (outB s i)) (fun iv _ => 8 - (intOf iv).toNat)
                case atStart => exact ⟨0, by omega, rfl, HSO.out⟩
                case round =>
                  clear HSO
                  obtain ⟨j, hj, rfl, hso⟩ := hrel
                  have HSO := Lib.hid hso
                  clear hso
                  by_cases hj8 : j < 8
                  · have hol := outB_length s j
                    have hws : s.list.length = 8 := rfl
                    obtain ⟨x, hx⟩ : ∃ x, x = s.list.getD j 0 := ⟨_, rfl⟩
                    have HO1 := Lib.hid (show outB s (j + 1) = outB s j ++ b4 x by rw [hx]; rfl)
                    have HX := Lib.hid hx
                    have nx := nw_bound x
                    have hj0 : (0 : Int) ≤ (j : Int) := by omega
                    have hji : (j : Int) < 8 := by omega
                    clear hx
                    go_wp2_with fail
                    go_loopw [11] (fun kv wz => ∃ k : Nat, k ≤ 4 ∧ kv = .int .i64 k ∧ SO w wz P O s (outB s j ++ (b4 x).take k)) (fun kv _ => 4 - (intOf kv).toNat)
                    case atStart => exact ⟨0, by omega, rfl, by simpa using HSO.out⟩
                    case round =>
                      clear HSO
                      obtain ⟨k, hk, rfl, hso⟩ := hrel
                      by_cases hk4 : k < 4
                      · have cw := hso.wds.cell j
                        rw [Wi_getD (by omega), ← HX.out] at cw
                        have hlk : (outB s j ++ (b4 x).take k).length = 4 * j + k := by rw [List.length_append, hol, List.length_take, show (b4 x).length = 4 from rfl]; omega
                        have hfz := hso.out.frozen (4 * j + k)
                        have cz := hso.out.cell (4 * j + k)
                        rw [show (partB (outB s j ++ (b4 x).take k))[4 * j + k]? = some (.int .u8 0) by rw [← hlk]; exact partB_next (j := 0) (by omega)] at cz
                        have HB := Lib.hid (b4_byte x k hk4)
                        have HPUT := Lib.hid (hso.put (by omega) (by omega) (by rw [hlk]; omega) ((b4 x).getD k 0) (4 * j + k) hlk.symm)
                        have hk0 : (0 : Int) ≤ (k : Int) := by omega
                        have hki : (k : Int) < 4 := by omega
                        clear hso hlk
                        go_wp2_with fail
                        go_roundw
                        case rel =>
                          refine ⟨k + 1, by omega, by go_num, ?_⟩
                          rw [HB.out, b4_step x k hk4, ← List.append_assoc]
                          exact HPUT.out
                        case measure => simp [intOf]; omega
                      · obtain rfl : k = 4 := by omega
                        have h4 : outB s j ++ (b4 x).take 4 = outB s (j + 1) := by rw [HO1.out]; rfl
                        rw [h4] at hso
                        have HSO := Lib.hid hso
                        clear hso h4
                        go_wp2_with fail
                        go_roundw
                        case rel => exact ⟨j + 1, by omega, by go_num, HSO.out⟩
                        case measure => simp [intOf]; omega
                  · obtain rfl : j = 8 := by omega
                    have hpl : (partB (outB s 8)).length = 32 := partB_length (by rw [outB_length]; omega)
                    go_wp2_with (first
                      | (refine wpList_load_mid rfl 184 (.tmp 9) rfl O 0 rfl _ _ HSO.out.out.range Tryz.underlying184 rfl (info31.trans (by rw [hpl])) ?_)
                      | (refine wpList_store_blk rfl 184 (.tmp 4) (.tmp 77) rfl (w.heap.size + 1) 0 _ rfl rfl HSO.out.res (by simp [hpl]) (info31.trans (by rw [hpl])) (partB_oneCell _) ?_; intro W2 hA hO))
                    rw [over_whole (by simp [hpl]), partB_whole _ (outB_length s 8)] at hA
                    refine bodyPost_ret (v := .agg (Vb (outB s 8)).toArray) ?_ rfl ⟨by rw [HFIN.out], ?_⟩
                    · exact ret_cell rfl rfl (run_loadVar_mid _ _ 0 184 _ _ hA.range Tryz.underlying184 rfl (info31.trans (by simp [Vb_length, outB_length])))
                    · exact HSO.out.bel.trans (hO.below (B := w.heap.size) (by have := HSO.out.res.lt; omega) (by simp))
          · obtain ⟨i, rfl⟩ : ∃ i, k = i + 1 := ⟨k - 1, by omega⟩
            have hii : (((i + 1 : Nat) : Int) - 1) = (i : Int) := by omega
            rw [hii]
            have e7 : 8 - (i + 1) = 7 - i := by omega
            rw [e7] at HS hcap ⊢
            have hlz : (bs ++ pad n ++ count8 n (7 - i)).length = n + 1 + gap n + (7 - i) := by simp [pad_length, count8_length]; omega
            have ho := HS.out.own
            rw [hlz] at ho
            have HO := Lib.hid ho
            have HLZ := Lib.hid hlz
            clear hlz ho hii e7
            go_wp2_with (at_builtin; go_loud (refine wpList_append_own _ rfl (.tmp 30) (.tmp 38) 22 rfl (w.heap.size + 2) 5 i0 (.int .u8 0) 1 1 Tryz.underlying22 HI.out.1 HI.out.2.1 HI.out.2.2.1 HI.out.2.2.2 rfl (by decide) (.slice (some ⟨g, 0, none⟩) (n + 1 + gap n + (7 - i)) cap) (n + 1 + gap n + (7 - i)) (Vb (bs ++ pad n ++ count8 n (7 - i))) rfl (HO.out.alloc _) ⟨wr.heap.size, 0, none⟩ 1 1 [.int .u8 (8 * (n : Int) / 2 ^ (8 * i) % 256)] rfl rfl (new_one wr _ 5) (one_one _ _) (by unfold maxLen; omega) (by omega) (by have := HS.out.res.lt; simp; omega) ?_); intro v2 w2 ho2 hg2 _)
            have h2 : SM w w2 v2 (bs ++ pad n ++ count8 n (8 - i)) := by
              have := (HS.out.alloc _).grown (x := [BitVec.ofNat 8 (n * 8 / 2 ^ (56 - 8 * (7 - i)))]) hg2 (by rw [Vb_append, List.length_append, HLZ.out]; rw [count_here n i (by omega)] at ho2; exact ho2)
              rw [show 8 - i = (7 - i) + 1 by omega, count8, ← List.append_assoc]
              exact this
            have hl2 : (bs ++ pad n ++ count8 n (8 - i)).length = n + 1 + gap n + (8 - i) := by simp [pad_length, count8_length]; omega
            obtain ⟨g2, cap2, rfl, hgB, hcap2, hcm2⟩ := own_shape h2.own (by rw [hl2]; omega)
            have H2 := Lib.hid h2
            rw [hl2] at hcap2 H2 ⊢
            clear h2 ho2 hg2 hl2
            go_wp2_with fail
            go_roundw
            case rel =>
              exact ⟨i, g2, cap2, by omega, by go_num, rfl, hcap2, H2.out⟩
            case measure => simp [intOf]

end Go.Proofs.YtfkdpndcoegfpaaGreatDoor
end
