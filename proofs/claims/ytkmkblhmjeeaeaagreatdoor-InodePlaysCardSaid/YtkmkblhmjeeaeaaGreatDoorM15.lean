/-
  How a function that ranged over functions leaves: its marks are taken off. Plain theorems; no condition.
-/
import Derived.Test.YtkmkblhmjeeaeaaGreatDoorM13
import Derived.RangeFuncNested
import Derived.RangeFuncBound
import Derived.RangeFuncCalls
import Derived.RangeFuncLeaves
section
set_option linter.unusedSimpArgs false
set_option linter.unusedVariables false
set_option maxRecDepth 100000
namespace Go.Proofs.YtkmkblhmjeeaeaaGreatDoor
open Go.RowKit

/-- w' is w but for deferred calls' lists at or beyond N. -/
structure Marked (N : Nat) (w w' : World) : Prop where
  os : w'.os = w.os
  tape : w'.tape = w.tape
  output : w'.output = w.output
  size : w'.heap.size = w.heap.size
  block : ∀ k, (k < N ∨ ∀ l, w.heap[k]? ≠ some (.deferred l)) → w'.heap[k]? = w.heap[k]?
theorem Marked.refl (N : Nat) (w : World) : Marked N w w := ⟨rfl, rfl, rfl, rfl, fun _ _ => rfl⟩
theorem Marked.below {N : Nat} {w w' : World} (h : Marked N w w') : Below N w w' := ⟨h.os, h.tape, h.output, Nat.le_of_eq h.size.symm, fun k hk => h.block k (.inl hk)⟩
theorem Marked.blk {N : Nat} {w w' : World} (h : Marked N w w') {g : Nat} {t : TypeId} {cs : List Value} (hb : Blk w g t cs) : Blk w' g t cs := by
  unfold Blk at hb ⊢
  rw [h.block g (.inr fun l e => by rw [hb] at e; cases e)]
  exact hb
theorem Marked.bts {N : Nat} {w w' : World} (h : Marked N w w') {A : Nat → Prop} {v : Value} {xs : List B8} (hb : Bts A w v xs) : Bts A w' v xs := by
  rcases hb with hb | ⟨g, o, cap, t, cs, e, hA, hn, hb, ht, h1, h2⟩
  · exact .inl hb
  · exact .inr ⟨g, o, cap, t, cs, e, hA, hn, h.blk hb, ht, h1, h2⟩
theorem Marked.wown {N M : Nat} {w w' : World} (h : Marked N w w') {A : Nat → Prop} {v : Value} {ws : List (Int × List B8)} (hb : WOwn A M w v ws) : WOwn A M w' v ws := by
  obtain ⟨cells, h1, h2, h3⟩ := hb
  refine ⟨cells, ⟨h1.1, ?_⟩, h2, fun i p hp => ?_⟩
  · rcases h1.2 with h1 | ⟨b, cap, cur, rfl, g1, g2, g3⟩
    · exact .inl h1
    · exact .inr ⟨b, cap, cur, rfl, g1, (h.block b (.inr fun l e => by rw [g2] at e; cases e)).trans g2, g3⟩
  · obtain ⟨c0, u, c1, hu⟩ := h3 i p hp
    exact ⟨c0, u, c1, h.bts hu⟩
theorem Marked.put {N D : Nat} {w w' : World} (hN : N ≤ D) (hD : w.heap[D]? = some (.deferred (some []))) (h : Marked N (w.putObj D (.deferred none)) w') : Marked N w w' := by
  refine ⟨h.os, h.tape, h.output, by rw [h.size]; simp, fun k hk => ?_⟩
  have hkD : k ≠ D := by
    rintro rfl
    rcases hk with hk | hk
    · omega
    · exact hk _ hD
  rw [h.block k ?_, World.putObj_heap_other hkD]
  rcases hk with hk | hk
  · exact .inl hk
  · refine .inr fun l e => hk l ?_
    rw [World.putObj_heap_other hkD] at e
    exact e
/-- Marks, as a frame bears them. -/
def marks (ds : List Nat) : List Deferred := ds.map fun D => { target := .collected D, args := #[] }
theorem leaves_marks {F : Fence} {n : Nat} {P : Program} {fn : Func} {tmps : Array Value} {R : Ending → World → Prop} {v : Value} {N : Nat} : ∀ (ds : List Nat) (w : World), ds.Nodup → (∀ D ∈ ds, N ≤ D ∧ w.heap[D]? = some (.deferred (some []))) →
    (∀ w', Marked N w w' → (results fn tmps).run P w' = .ok v w' ∧ R (.returned v) w') → LeavesInM F n P fn tmps R (marks ds) .returning w
  | [], w, _, _, h => ⟨v, (h w (Marked.refl N w)).1, (h w (Marked.refl N w)).2⟩
  | D :: ds, w, hn, hD, h => by
    have h0 := hD D List.mem_cons_self
    refine ⟨by simp, .inl ⟨D, _, rfl, run_takeDeferred h0.2, ?_⟩⟩
    refine leaves_marks ds _ (List.nodup_cons.1 hn).2 (fun E hE => ?_) fun w' hm => h w' (Marked.put h0.1 h0.2 hm)
    have hne : E ≠ D := fun e => (List.nodup_cons.1 hn).1 (by rw [← e]; exact hE)
    have h1 := hD E (List.mem_cons_of_mem _ hE)
    exact ⟨h1.1, by rw [World.putObj_heap_other hne]; exact h1.2⟩
end Go.Proofs.YtkmkblhmjeeaeaaGreatDoor
end
