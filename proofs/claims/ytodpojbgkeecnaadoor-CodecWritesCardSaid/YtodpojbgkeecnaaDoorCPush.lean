/-
  A value that is put behind the innermost open list's, in memory: in either order of the two stores. Plain theorems; conditions: those in each.
-/
import Derived.Test.YtodpojbgkeecnaaDoorCStack
import Derived.Test.YtodpojbgkeecnaaDoorCKnown
set_option linter.unusedSimpArgs false
set_option linter.unusedVariables false
namespace Go.Proofs.YtodpojbgkeecnaaDoor
open Go.RowKit

abbrev zeroV : List Value := [.int .i64 0, .int .i64 0, .slice none 0 0, .slice none 0 0]
/-- Four cells of a row are stored. -/
def putAt (w : World) (g o : Nat) (c0 c1 c2 c3 : Value) : World := (((w.setCell ⟨g, o, none⟩ c0).setCell ⟨g, o + 1, none⟩ c1).setCell ⟨g, o + 2, none⟩ c2).setCell ⟨g, o + 3, none⟩ c3
theorem putAt_only (w : World) (g o : Nat) (c0 c1 c2 c3 : Value) : Only [g] w (putAt w g o c0 c1 c2 c3) := (((((Only.refl _ _).setCell (.inl (by simp)) _).setCell (.inl (by simp)) _).setCell (.inl (by simp)) _).setCell (.inl (by simp)) _)
theorem putAt_row {w : World} {B : Nat} {e : TypeId} {n : Nat} {v : Value} {xs : List Value} {z0 z1 z2 z3 : Value} (h : w.ownsRow B e 4 v n (xs ++ [z0, z1, z2, z3])) {g : Nat} (hg : v.ownBlock = some g) {o : Nat} (ho : o = xs.length) (c0 c1 c2 c3 : Value) : (putAt w g o c0 c1 c2 c3).ownsRow B e 4 v n (xs ++ [c0, c1, c2, c3]) := by
  subst ho
  have h1 := ownsRow_set h hg (j := xs.length) (by simp) c0
  have h2 := ownsRow_set h1 hg (j := xs.length + 1) (by simp) c1
  have h3 := ownsRow_set h2 hg (j := xs.length + 2) (by simp) c2
  have h4 := ownsRow_set h3 hg (j := xs.length + 3) (by simp) c3
  have e : ((((xs ++ [z0, z1, z2, z3]).set xs.length c0).set (xs.length + 1) c1).set (xs.length + 2) c2).set (xs.length + 3) c3 = xs ++ [c0, c1, c2, c3] := by
    rw [List.set_append_right _ _ (by omega), List.set_append_right _ _ (by omega), List.set_append_right _ _ (by omega), List.set_append_right _ _ (by omega)]
    simp
  rw [e] at h4
  exact h4

section
variable {W w4 : World} {B gs cs gg cap : Nat} {ini : List Fr} {f : Fr} {t : T} {c0 c1 c2 c3 : Value}
/-- What the stores find, behind append. -/
theorem push_facts {z0 z1 z2 z3 : Value} (hst : Stack W B (.slice (some ⟨gs, 0, none⟩) (ini.length + 1) cs) (ini ++ [f]))
    (ho4 : w4.ownsRow B 26 4 (.slice (some ⟨gg, 0, none⟩) (f.l.length + 1) cap) (f.l.length + 1) (f.xs ++ [z0, z1, z2, z3])) (hg4 : W.grownBy w4 f.v.ownBlock) (hat : f.v.ownBlock = some gg ∨ W.heap.size ≤ gg) :
    (w4.cell? ⟨gg, f.l.length * 4, none⟩ = some z0 ∧ w4.cell? ⟨gg, f.l.length * 4 + 1, none⟩ = some z1 ∧ w4.cell? ⟨gg, f.l.length * 4 + 2, none⟩ = some z2 ∧ w4.cell? ⟨gg, f.l.length * 4 + 3, none⟩ = some z3) ∧ (∀ j, w4.frozen? ⟨gg, j, none⟩ = false) ∧
      w4.cell? ⟨gs, ini.length * 4 + 3, none⟩ = some f.v ∧ (∀ j, w4.frozen? ⟨gs, j, none⟩ = false) ∧ gg ≠ gs ∧ w4.ownsRow B 26 4 (.slice (some ⟨gs, 0, none⟩) (ini.length + 1) cs) (ini.length + 1) (cellsOf (ini ++ [f])) := by
  have hxl : f.xs.length = f.l.length * 4 := (hst.each f (by simp)).1.1
  have hgl := (hst.row.lt gs rfl).2
  have hne : gg ≠ gs := by
    rintro rfl
    rcases hat with e | e
    · rcases hst.apart f (by simp) with h1 | h1
      · rw [e] at h1; cases h1
      · exact h1 (by rw [e]; rfl)
    · omega
  have hfs : f.v.ownBlock ≠ some gs := by
    intro e
    rcases hst.apart f (by simp) with h1 | h1
    · rw [e] at h1; cases h1
    · exact h1 (by rw [e]; rfl)
  have hrow : w4.ownsRow B 26 4 (.slice (some ⟨gs, 0, none⟩) (ini.length + 1) cs) (ini.length + 1) (cellsOf (ini ++ [f])) := by
    have := ownsRow_keep (w' := w4) hst.row (fun g hg => by
      have : g = gs := by simpa [Value.ownBlock] using hg.symm
      subst this
      exact hg4.block g hgl (fun e => hfs e.symm))
    simpa using this
  have get : ∀ i u, [z0, z1, z2, z3][i]? = some u → w4.cell? ⟨gg, f.l.length * 4 + i, none⟩ = some u := fun i u hu => ownsRow_cell ho4 rfl (by rw [List.getElem?_append_right (by omega), hxl, Nat.add_sub_cancel_left]; exact hu)
  exact ⟨⟨get 0 z0 rfl, get 1 z1 rfl, get 2 z2 rfl, get 3 z3 rfl⟩, ownsRow_frozen ho4 rfl, ownsRow_cell hrow rfl (cellsOf_top ini f).2.2.2, ownsRow_frozen hrow rfl, hne, hrow⟩
theorem push_aux {w6 : World} {z0 z1 z2 z3 : Value} (hst : Stack W B (.slice (some ⟨gs, 0, none⟩) (ini.length + 1) cs) (ini ++ [f])) (hB : B ≤ W.heap.size) (hin : In W (fun g => B ≤ g ∧ ¬ Live (.slice (some ⟨gs, 0, none⟩) (ini.length + 1) cs) (ini ++ [f]) g) t (.agg #[c0, c1, c2, c3]))
    (ho4 : w4.ownsRow B 26 4 (.slice (some ⟨gg, 0, none⟩) (f.l.length + 1) cap) (f.l.length + 1) (f.xs ++ [z0, z1, z2, z3])) (hg4 : W.grownBy w4 f.v.ownBlock) (hat : f.v.ownBlock = some gg ∨ W.heap.size ≤ gg)
    (ho : Only [gg, gs] w4 w6) (hrow : w6.ownsRow B 26 4 (.slice (some ⟨gg, 0, none⟩) (f.l.length + 1) cap) (f.l.length + 1) (f.xs ++ [c0, c1, c2, c3]))
    (hhdr : w6.ownsRow B 26 4 (.slice (some ⟨gs, 0, none⟩) (ini.length + 1) cs) (ini.length + 1) (cellsOf (ini ++ [⟨.slice (some ⟨gg, 0, none⟩) (f.l.length + 1) cap, f.l ++ [t], f.xs ++ [c0, c1, c2, c3]⟩]))) :
    Stack w6 B (.slice (some ⟨gs, 0, none⟩) (ini.length + 1) cs) (ini ++ [⟨.slice (some ⟨gg, 0, none⟩) (f.l.length + 1) cap, f.l ++ [t], f.xs ++ [c0, c1, c2, c3]⟩]) ∧ Below B W w6 := by
  have hs4 := hg4.size
  have hbl : Below B W w4 := ((Below.refl B W).grown hg4 hB (own_ge (hst.each f (by simp)).1))
  have hgB : B ≤ gg := (ho4.lt gg rfl).1
  have hsB : B ≤ gs := (hst.row.lt gs rfl).1
  refine ⟨push_core hst hin (fun g hg hv hfv => ?_) ?_ hrow hhdr, hbl.trans (ho.below (B := B) (by omega) (by simp; omega))⟩
  · refine (ho.block g (by omega) ?_).trans (hg4.block g hg (fun e => hfv e.symm))
    have h1 : gs ≠ g := fun e => hv (by rw [e]; rfl)
    have h2 : gg ≠ g := by
      rintro rfl
      rcases hat with e | e
      · exact hfv e
      · omega
    simp only [List.mem_cons, List.not_mem_nil, or_false, not_or]
    exact ⟨fun e => h2 e.symm, fun e => h1 e.symm⟩
  · rcases hat with e | e
    · exact .inl (by rw [e]; rfl)
    · exact .inr ⟨gg, rfl, e⟩
/-- The element first, then the header. -/
theorem push_one {z0 z1 z2 z3 : Value} (hst : Stack W B (.slice (some ⟨gs, 0, none⟩) (ini.length + 1) cs) (ini ++ [f])) (hB : B ≤ W.heap.size) (hin : In W (fun g => B ≤ g ∧ ¬ Live (.slice (some ⟨gs, 0, none⟩) (ini.length + 1) cs) (ini ++ [f]) g) t (.agg #[c0, c1, c2, c3]))
    (ho4 : w4.ownsRow B 26 4 (.slice (some ⟨gg, 0, none⟩) (f.l.length + 1) cap) (f.l.length + 1) (f.xs ++ [z0, z1, z2, z3])) (hg4 : W.grownBy w4 f.v.ownBlock) (hat : f.v.ownBlock = some gg ∨ W.heap.size ≤ gg) :
    Stack ((putAt w4 gg (f.l.length * 4) c0 c1 c2 c3).setCell ⟨gs, ini.length * 4 + 3, none⟩ (.slice (some ⟨gg, 0, none⟩) (f.l.length + 1) cap)) B (.slice (some ⟨gs, 0, none⟩) (ini.length + 1) cs) (ini ++ [⟨.slice (some ⟨gg, 0, none⟩) (f.l.length + 1) cap, f.l ++ [t], f.xs ++ [c0, c1, c2, c3]⟩]) ∧
      Below B W ((putAt w4 gg (f.l.length * 4) c0 c1 c2 c3).setCell ⟨gs, ini.length * 4 + 3, none⟩ (.slice (some ⟨gg, 0, none⟩) (f.l.length + 1) cap)) := by
  obtain ⟨_, _, _, _, hne, hrs⟩ := push_facts hst ho4 hg4 hat
  have hxl : f.xs.length = f.l.length * 4 := (hst.each f (by simp)).1.1
  have hp := putAt_only w4 gg (f.l.length * 4) c0 c1 c2 c3
  have hr1 := putAt_row ho4 (g := gg) rfl (o := f.l.length * 4) hxl.symm c0 c1 c2 c3
  have hr2 := ownsRow_keep (w' := putAt w4 gg (f.l.length * 4) c0 c1 c2 c3) hrs (fun g hg => by
    have : g = gs := by simpa [Value.ownBlock] using hg.symm
    subst this
    exact hp.block g (hrs.lt g rfl).2 (by simpa using hne.symm))
  refine push_aux hst hB hin ho4 hg4 hat ((hp.mono (by simp)).setCell (.inl (by simp)) _) (ownsRow_keep hr1 fun g hg => ?_) ?_
  · have : g = gg := by simpa [Value.ownBlock] using hg.symm
    subst this
    exact Below.heap_setCell _ _ _ g (by simpa using hne)
  · have := ownsRow_set hr2 (g := gs) rfl (j := ini.length * 4 + 3) (by rw [cellsOf_length]; simp; omega) (.slice (some ⟨gg, 0, none⟩) (f.l.length + 1) cap)
    rw [cellsOf_set] at this
    exact this
/-- The header first, then the element. -/
theorem push_two {z0 z1 z2 z3 : Value} (hst : Stack W B (.slice (some ⟨gs, 0, none⟩) (ini.length + 1) cs) (ini ++ [f])) (hB : B ≤ W.heap.size) (hin : In W (fun g => B ≤ g ∧ ¬ Live (.slice (some ⟨gs, 0, none⟩) (ini.length + 1) cs) (ini ++ [f]) g) t (.agg #[c0, c1, c2, c3]))
    (ho4 : w4.ownsRow B 26 4 (.slice (some ⟨gg, 0, none⟩) (f.l.length + 1) cap) (f.l.length + 1) (f.xs ++ [z0, z1, z2, z3])) (hg4 : W.grownBy w4 f.v.ownBlock) (hat : f.v.ownBlock = some gg ∨ W.heap.size ≤ gg) :
    Stack (putAt (w4.setCell ⟨gs, ini.length * 4 + 3, none⟩ (.slice (some ⟨gg, 0, none⟩) (f.l.length + 1) cap)) gg (f.l.length * 4) c0 c1 c2 c3) B (.slice (some ⟨gs, 0, none⟩) (ini.length + 1) cs) (ini ++ [⟨.slice (some ⟨gg, 0, none⟩) (f.l.length + 1) cap, f.l ++ [t], f.xs ++ [c0, c1, c2, c3]⟩]) ∧
      Below B W (putAt (w4.setCell ⟨gs, ini.length * 4 + 3, none⟩ (.slice (some ⟨gg, 0, none⟩) (f.l.length + 1) cap)) gg (f.l.length * 4) c0 c1 c2 c3) := by
  obtain ⟨_, _, _, _, hne, hrs⟩ := push_facts hst ho4 hg4 hat
  have hxl : f.xs.length = f.l.length * 4 := (hst.each f (by simp)).1.1
  have hs1 := ownsRow_set hrs (g := gs) rfl (j := ini.length * 4 + 3) (by rw [cellsOf_length]; simp; omega) (.slice (some ⟨gg, 0, none⟩) (f.l.length + 1) cap)
  rw [cellsOf_set ini f _ (f.l ++ [t]) (f.xs ++ [c0, c1, c2, c3])] at hs1
  have ho5 := ownsRow_keep (w' := w4.setCell ⟨gs, ini.length * 4 + 3, none⟩ (.slice (some ⟨gg, 0, none⟩) (f.l.length + 1) cap)) ho4 (fun g hg => by
    have : g = gg := by simpa [Value.ownBlock] using hg.symm
    subst this
    exact Below.heap_setCell _ _ _ g (by simpa using hne))
  have hp := putAt_only (w4.setCell ⟨gs, ini.length * 4 + 3, none⟩ (.slice (some ⟨gg, 0, none⟩) (f.l.length + 1) cap)) gg (f.l.length * 4) c0 c1 c2 c3
  have hr1 := putAt_row ho5 (g := gg) rfl (o := f.l.length * 4) hxl.symm c0 c1 c2 c3
  refine push_aux hst hB hin ho4 hg4 hat (((Only.refl _ _).setCell (.inl (by simp)) _).trans (hp.mono (by simp))) hr1 (ownsRow_keep hs1 fun g hg => ?_)
  have : g = gs := by simpa [Value.ownBlock] using hg.symm
  subst this
  exact hp.block g (hs1.lt g rfl).2 (by simpa using hne.symm)
/-- The element is appended itself; the header alone is stored. -/
theorem push_whole (hst : Stack W B (.slice (some ⟨gs, 0, none⟩) (ini.length + 1) cs) (ini ++ [f])) (hB : B ≤ W.heap.size) (hin : In W (fun g => B ≤ g ∧ ¬ Live (.slice (some ⟨gs, 0, none⟩) (ini.length + 1) cs) (ini ++ [f]) g) t (.agg #[c0, c1, c2, c3]))
    (ho4 : w4.ownsRow B 26 4 (.slice (some ⟨gg, 0, none⟩) (f.l.length + 1) cap) (f.l.length + 1) (f.xs ++ [c0, c1, c2, c3])) (hg4 : W.grownBy w4 f.v.ownBlock) (hat : f.v.ownBlock = some gg ∨ W.heap.size ≤ gg) :
    Stack (w4.setCell ⟨gs, ini.length * 4 + 3, none⟩ (.slice (some ⟨gg, 0, none⟩) (f.l.length + 1) cap)) B (.slice (some ⟨gs, 0, none⟩) (ini.length + 1) cs) (ini ++ [⟨.slice (some ⟨gg, 0, none⟩) (f.l.length + 1) cap, f.l ++ [t], f.xs ++ [c0, c1, c2, c3]⟩]) ∧
      Below B W (w4.setCell ⟨gs, ini.length * 4 + 3, none⟩ (.slice (some ⟨gg, 0, none⟩) (f.l.length + 1) cap)) := by
  obtain ⟨_, _, _, _, hne, hrs⟩ := push_facts hst ho4 hg4 hat
  have hs1 := ownsRow_set hrs (g := gs) rfl (j := ini.length * 4 + 3) (by rw [cellsOf_length]; simp; omega) (.slice (some ⟨gg, 0, none⟩) (f.l.length + 1) cap)
  rw [cellsOf_set ini f _ (f.l ++ [t]) (f.xs ++ [c0, c1, c2, c3])] at hs1
  have ho5 := ownsRow_keep (w' := w4.setCell ⟨gs, ini.length * 4 + 3, none⟩ (.slice (some ⟨gg, 0, none⟩) (f.l.length + 1) cap)) ho4 (fun g hg => by
    have : g = gg := by simpa [Value.ownBlock] using hg.symm
    subst this
    exact Below.heap_setCell _ _ _ g (by simpa using hne))
  exact push_aux hst hB hin ho4 hg4 hat ((Only.refl _ _).setCell (.inl (by simp)) _) ho5 hs1
end

end Go.Proofs.YtodpojbgkeecnaaDoor
