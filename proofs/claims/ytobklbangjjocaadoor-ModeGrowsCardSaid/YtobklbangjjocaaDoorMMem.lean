/-
  The memory words of mode's laws: stats as values, lists of numbers that lie in memory. Plain theorems on worlds; no condition.
-/
import Derived.Test.YtobklbangjjocaaDoorBMem
import Derived.Test.YtobklbangjjocaaDoorMPure
import Derived.Lib.Hide
set_option linter.unusedSimpArgs false
set_option linter.unusedVariables false
set_option maxRecDepth 100000
namespace Go.Proofs.YtobklbangjjocaaDoor
open Go.RowKit

theorem mnew (w : World) (o : Obj) : Below w.heap.size w (w.alloc o) := (Below.refl _ _).alloc (Nat.le_refl _) _
theorem mdrewN (w : World) (n : Nat) : Below w.heap.size w (w.drewN n) := ⟨rfl, rfl, rfl, Nat.le_refl _, fun _ _ => rfl⟩
theorem mdrew (w : World) : Below w.heap.size w w.drew := ⟨rfl, rfl, rfl, Nat.le_refl _, fun _ _ => rfl⟩
theorem mthen {w a b : World} (h : Below w.heap.size w a) (k : Below a.heap.size a b) : Below w.heap.size w b := h.trans (k.mono h.size)
theorem ret_num {k : IntKind} {a b : Int} (h : a = b) : Ending.returned (.int k a) = .returned (.int k b) := by rw [h]
theorem ret_bool {a b : Bool} (h : a = b) : Ending.returned (.bool a) = .returned (.bool b) := by rw [h]

/-- A stat as a value. -/
abbrev stv (k m o g : Int) : Value := .agg #[.int .i64 k, .int .i64 m, .int .i64 o, .int .i64 g]
def sts (k m o g : Int) : List Value := [.int .i64 k, .int .i64 m, .int .i64 o, .int .i64 g]

/-- A slice of numbers that reads as a list. -/
structure NIn (w : World) (A : Option Addr) (n c : Nat) (ps : List Int) : Prop where
  len : ps.length = n
  cap : n ≤ c
  big : n ≤ 9223372036854775807
  bound : ∀ x ∈ ps, -9223372036854775808 ≤ x ∧ x ≤ 9223372036854775807
  cells : 0 < n → ∃ g o, A = some ⟨g, o, none⟩ ∧ g < w.heap.size ∧ ∀ (j : Nat) (x : Int), ps[j]? = some x → w.cell? ⟨g, o + j, none⟩ = some (.int .i64 x)
theorem NIn.below {w w' : World} {A : Option Addr} {n c : Nat} {ps : List Int} (h : NIn w A n c ps) (hb : Below w.heap.size w w') : NIn w' A n c ps := by
  refine ⟨h.len, h.cap, h.big, h.bound, fun hn => ?_⟩
  obtain ⟨g, o, hA, hg, hc⟩ := h.cells hn
  exact ⟨g, o, hA, Nat.lt_of_lt_of_le hg hb.size, fun j x hx => (hb.cell (p := ⟨g, o + j, none⟩) hg).trans (hc j x hx)⟩
theorem NIn.take {w : World} {A : Option Addr} {n c : Nat} {ps : List Int} (h : NIn w A n c ps) (m : Nat) (hm : m ≤ n) : NIn w A m c (ps.take m) := by
  refine ⟨by rw [List.length_take]; have := h.len; omega, by have := h.cap; omega, by have := h.big; omega, fun x hx => h.bound x (List.mem_of_mem_take hx), fun hn => ?_⟩
  obtain ⟨g, o, hA, hg, hc⟩ := h.cells (by omega)
  refine ⟨g, o, hA, hg, fun j x hx => ?_⟩
  rw [List.getElem?_take] at hx
  split at hx
  · exact hc j x hx
  · cases hx
/-- A list that has just been laid. -/
theorem NIn.blk {w : World} {g : Nat} {t : TypeId} {ps : List Int} (h : Blk w g t (ps.map (Value.int .i64))) (hb : ∀ x ∈ ps, -9223372036854775808 ≤ x ∧ x ≤ 9223372036854775807) (hl : ps.length ≤ 9223372036854775807) : NIn w (some ⟨g, 0, none⟩) ps.length ps.length ps := by
  refine ⟨rfl, Nat.le_refl _, hl, hb, fun _ => ⟨g, 0, rfl, h.lt, fun j x hx => ?_⟩⟩
  rw [Nat.zero_add, h.cell j, List.getElem?_map, hx]
  rfl
theorem NIn.one (w : World) (t : TypeId) (a : Int) (h0 : -9223372036854775808 ≤ a) (h1 : a ≤ 9223372036854775807) : NIn (w.alloc (.cells #[.int .i64 a] t)) (some ⟨w.heap.size, 0, none⟩) 1 1 [a] :=
  NIn.blk (ps := [a]) (Blk.new w t [.int .i64 a]) (fun x hx => by simp only [List.mem_singleton] at hx; subst hx; exact ⟨h0, h1⟩) (by simp)
theorem NIn.two (w : World) (t : TypeId) (a b : Int) (h0 : -9223372036854775808 ≤ a) (h1 : a ≤ 9223372036854775807) (h2 : -9223372036854775808 ≤ b) (h3 : b ≤ 9223372036854775807) : NIn (w.alloc (.cells #[.int .i64 a, .int .i64 b] t)) (some ⟨w.heap.size, 0, none⟩) 2 2 [a, b] :=
  NIn.blk (ps := [a, b]) (Blk.new w t [.int .i64 a, .int .i64 b]) (fun x hx => by simp only [List.mem_cons, List.not_mem_nil, or_false] at hx; rcases hx with rfl | rfl <;> omega) (by simp)
theorem NIn.two1 (w : World) (X : Obj) (t : TypeId) (a b : Int) (h0 : -9223372036854775808 ≤ a) (h1 : a ≤ 9223372036854775807) (h2 : -9223372036854775808 ≤ b) (h3 : b ≤ 9223372036854775807) : NIn ((w.alloc X).alloc (.cells #[.int .i64 a, .int .i64 b] t)) (some ⟨w.heap.size + 1, 0, none⟩) 2 2 [a, b] := by
  have := NIn.two (w.alloc X) t a b h0 h1 h2 h3
  rwa [World.size_alloc] at this
theorem NIn.two2 (w : World) (X Y : Obj) (t : TypeId) (a b : Int) (h0 : -9223372036854775808 ≤ a) (h1 : a ≤ 9223372036854775807) (h2 : -9223372036854775808 ≤ b) (h3 : b ≤ 9223372036854775807) : NIn (((w.alloc X).alloc Y).alloc (.cells #[.int .i64 a, .int .i64 b] t)) (some ⟨w.heap.size + 1 + 1, 0, none⟩) 2 2 [a, b] := by
  have := NIn.two ((w.alloc X).alloc Y) t a b h0 h1 h2 h3
  rwa [World.size_alloc, World.size_alloc] at this
/-- A stat's box. -/
def Box (w : World) (b : Nat) (t : TypeId) (k m o g : Int) : Prop := Blk w b t [.int .i64 k, .int .i64 m, .int .i64 o, .int .i64 g]
theorem Box.cells {w : World} {b : Nat} {t : TypeId} {k m o g : Int} (h : Box w b t k m o g) :
    w.cell? ⟨b, 0, none⟩ = some (.int .i64 k) ∧ w.cell? ⟨b, 1, none⟩ = some (.int .i64 m) ∧ w.cell? ⟨b, 2, none⟩ = some (.int .i64 o) ∧ w.cell? ⟨b, 3, none⟩ = some (.int .i64 g) :=
  ⟨Blk.cell h 0, Blk.cell h 1, Blk.cell h 2, Blk.cell h 3⟩
theorem Box.free {w : World} {b : Nat} {t : TypeId} {k m o g : Int} (h : Box w b t k m o g) :
    w.frozen? ⟨b, 0, none⟩ = false ∧ w.frozen? ⟨b, 1, none⟩ = false ∧ w.frozen? ⟨b, 2, none⟩ = false ∧ w.frozen? ⟨b, 3, none⟩ = false :=
  ⟨Blk.frozen h 0, Blk.frozen h 1, Blk.frozen h 2, Blk.frozen h 3⟩
theorem Box.below {w w' : World} {b : Nat} {t : TypeId} {k m o g : Int} (h : Box w b t k m o g) (hb : Below w.heap.size w w') : Box w' b t k m o g := Blk.below h hb (Blk.lt h)
theorem Box.new (w : World) (t : TypeId) (k m o g : Int) : Box (w.alloc (.cells #[.int .i64 k, .int .i64 m, .int .i64 o, .int .i64 g] t)) w.heap.size t k m o g := Blk.new w t _
end Go.Proofs.YtobklbangjjocaaDoor
