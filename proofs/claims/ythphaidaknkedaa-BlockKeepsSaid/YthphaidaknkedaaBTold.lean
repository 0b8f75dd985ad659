/-
  The places that Crash is told: a copy of them, sorted; and which waiting writes they keep. Conditions: the slice's numbers lie at its address.
-/
import Derived.Test.YthphaidaknkedaaBFlush
import Derived.Sort.OwnSortedInts
namespace Go.Proofs.Ythphaidaknkedaa
open Go.RowKit

/-- The numbers of a slice lie at its address (nil, empty or not). -/
def IntsAt (w : World) (A : Option Addr) (ks : List Int) : Prop := ∀ j x, ks[j]? = some x → ∃ g o, A = some ⟨g, o, none⟩ ∧ w.cell? ⟨g, o + j, none⟩ = some (.int .i64 x)

/-- A slice of the call's own, of these numbers, behind the call. -/
def OwnInts (N : Nat) (ks : List Int) (w : World) (e : Ending) (w' : World) : Prop := ∃ v', e = .returned v' ∧ w'.ownsRow N 3 1 v' ks.length (ks.map (Value.int .i64)) ∧ Below N w w'

theorem clone_ints (w : World) (A : Option Addr) (n c : Nat) (ks : List Int) (hn : ks.length = n) (hbig : n ≤ 1000000) (h : IntsAt w A ks) :
    Calls Try.prog 47 #[.slice A n c] w (OwnInts w.heap.size ks w) := by
  subst hn
  cases A with
  | none =>
    have hk : ks = [] := by
      cases ks with
      | nil => rfl
      | cons x r => obtain ⟨g, o, he, _⟩ := h 0 x rfl; cases he
    subst hk
    exact (Try.slices_Clone_int_nil 0 c w).mono fun e w' ⟨he, hw⟩ => by subst hw; exact ⟨_, he, World.ownsRow_nil _ _ _ _, Below.refl _ _⟩
  | some a =>
    by_cases hz : ks.length = 0
    · have hk : ks = [] := List.eq_nil_of_length_eq_zero hz
      subst hk
      exact (Try.slices_Clone_int_zero a c w).mono fun e w' ⟨v', he, h1, _, h3⟩ => ⟨v', he, h1, h3⟩
    · obtain ⟨g, o, he, _⟩ := h 0 ks[0] (List.getElem?_eq_getElem (by omega))
      cases he
      refine (Try.slices_Clone_int g o ks.length c ks w (Nat.le_refl _) (by omega) ?_).mono fun e w' ⟨v', he, h1, _, h3⟩ => ⟨v', he, by rwa [List.take_length] at h1, h3⟩
      intro j hj
      obtain ⟨g', o', he', hc⟩ := h j ks[j] (List.getElem?_eq_getElem hj)
      cases he'
      rw [hc]
      simp [hj]

/-- The sorted list. -/
def sorted (ks : List Int) : List Int := ks.mergeSort fun x y => decide (x ≤ y)

theorem sort_ints (N : Nat) (w : World) (v : Value) (ks : List Int) (hN : N ≤ w.heap.size) (hbig : ks.length ≤ 1000000) (h : w.ownsRow N 3 1 v ks.length (ks.map (Value.int .i64))) :
    Calls Try.prog 48 #[v] w fun e w' => e = .returned (.tuple #[]) ∧ w'.ownsRow N 3 1 v ks.length ((sorted ks).map (Value.int .i64)) ∧ Below N w w' := by
  have hsl : (sorted ks).length = ks.length := by simp [sorted]
  rcases h.2 with ⟨rfl, h0⟩ | ⟨g, cap, cur, rfl, hbase, hb, h1, h2, h3, h4⟩
  · have hk : ks = [] := List.eq_nil_of_length_eq_zero h0
    subst hk
    exact (Try.slices_Sort_int_none none 0 w).mono fun e w' ⟨he, hw⟩ => by subst hw; exact ⟨he, by simpa [sorted] using World.ownsRow_nil w' N 3 1, Below.refl _ _⟩
  · refine (Try.slices_Sort_int g 0 cap ks w (holds_of_blockI hb (by simpa using h4)) (Array.getElem?_eq_some_iff.1 hb).1 (by omega)).mono fun e w' ⟨he, nn, os, hw⟩ => ?_
    subst hw
    exact ⟨he, ownsRow_sortedI hsl hbase hb h1 h2 h3, (Below.refl N w).grown (grownBy_sortedI _) hN (fun k hk => by cases hk; exact hbase)⟩

/-- The waiting writes that are kept, in their order: those whose places are told. -/
def kept (ks : List Int) (ws : List (Int × List Int)) : List (Int × List Int) := (ws.zipIdx.filter fun x => decide ((x.2 : Int) ∈ ks)).map (·.1)
theorem kept_snoc (ks : List Int) (ws : List (Int × List Int)) (p : Int × List Int) : kept ks (ws ++ [p]) = if (ws.length : Int) ∈ ks then kept ks ws ++ [p] else kept ks ws := by
  unfold kept
  rw [List.zipIdx_append]
  by_cases h : (ws.length : Int) ∈ ks
  · simp [h]
  · simp [h]
theorem kept_mem {ks : List Int} {ws : List (Int × List Int)} {p : Int × List Int} (h : p ∈ kept ks ws) : p ∈ ws := by
  unfold kept at h
  simp only [List.mem_map, List.mem_filter] at h
  obtain ⟨x, ⟨h1, _⟩, rfl⟩ := h
  exact (List.mem_zipIdx' h1).2 ▸ List.getElem_mem _
theorem kept_length (ks : List Int) (ws : List (Int × List Int)) : (kept ks ws).length ≤ ws.length := by
  unfold kept
  rw [List.length_map]
  exact Nat.le_trans (List.length_filter_le _ _) (by simp)
theorem kept_none {ks : List Int} (ws ws' : List (Int × List Int)) (h : ∀ j : Nat, ws.length ≤ j → (j : Int) ∉ ks) : kept ks (ws ++ ws') = kept ks ws := by
  unfold kept
  rw [List.zipIdx_append, List.filter_append, List.map_append]
  have e : ((ws'.zipIdx (0 + ws.length)).filter fun x => decide ((x.2 : Int) ∈ ks)) = [] := List.filter_eq_nil_iff.2 (fun x hx => by
    have := List.le_snd_of_mem_zipIdx hx
    simpa using h x.2 (by omega))
  rw [e]
  simp

/-- What Crash makes of a state. -/
def St.crash (s : St) (ks : List Int) : Int × St := (((kept ks s.waits).length : Nat), { s with on := false, laid := layAll s.laid (kept ks s.waits), waits := [] })

/-- What is still to be told from place i on. -/
def Rest (ks rest : List Int) (i : Nat) : Prop := rest.Pairwise (· ≤ ·) ∧ ∀ j : Nat, i ≤ j → ((j : Int) ∈ rest ↔ (j : Int) ∈ ks)
theorem Rest.start (ks : List Int) : Rest ks (sorted ks) 0 := by
  refine ⟨?_, fun j _ => by simp [sorted, List.mem_mergeSort]⟩
  have := List.pairwise_mergeSort (le := fun x y : Int => decide (x ≤ y)) (fun a b c h1 h2 => by simp only [decide_eq_true_eq] at *; omega) (fun a b => by simp only [Bool.or_eq_true, decide_eq_true_eq]; omega) ks
  exact this.imp (by intro a b h; simpa using h)
theorem Rest.drop {ks rest : List Int} {x : Int} {i : Nat} (h : Rest ks (x :: rest) i) (hx : x < i) : Rest ks rest i := by
  obtain ⟨h1, h2⟩ := h
  refine ⟨(List.pairwise_cons.1 h1).2, fun j hj => ?_⟩
  rw [← h2 j hj, List.mem_cons]
  constructor
  · exact Or.inr
  · rintro (e | h)
    · omega
    · exact h
theorem Rest.next {ks rest : List Int} {i : Nat} (h : Rest ks rest i) : Rest ks rest (i + 1) := ⟨h.1, fun j hj => h.2 j (by omega)⟩
theorem Rest.nil {ks : List Int} {i : Nat} (h : Rest ks [] i) : ∀ j : Nat, i ≤ j → (j : Int) ∉ ks := fun j hj hm => by
  have := (h.2 j hj).2 hm
  simp at this
theorem Rest.head {ks rest : List Int} {x : Int} {i : Nat} (h : Rest ks (x :: rest) i) (hx : ¬ x < i) : (i : Int) ∈ ks ↔ x = i := by
  rw [← h.2 i (Nat.le_refl _), List.mem_cons]
  constructor
  · rintro (e | e)
    · exact e.symm
    · have := (List.pairwise_cons.1 h.1).1 _ e
      omega
  · intro e
    exact .inl e.symm

end Go.Proofs.Ythphaidaknkedaa
