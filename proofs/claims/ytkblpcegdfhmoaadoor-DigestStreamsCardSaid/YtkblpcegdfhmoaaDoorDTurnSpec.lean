/-
  A block's turn of the eight words, as plain data. No condition.
-/
import Derived.Test.YtkblpcegdfhmoaaDoorDSpread
namespace Go.Proofs.YtkblpcegdfhmoaaDoor
open Go.RowKit

/-- The eight words. -/
structure S8 where
  a : B32
  b : B32
  c : B32
  d : B32
  e : B32
  f : B32
  g : B32
  h : B32

def S8.list (s : S8) : List B32 := [s.a, s.b, s.c, s.d, s.e, s.f, s.g, s.h]
def one8 (s : S8) (k w : B32) : B32 := s.h + (rr s.e 6 ^^^ rr s.e 11 ^^^ rr s.e 25) + ((s.e &&& s.f) ^^^ (~~~s.e &&& s.g)) + k + w
def two8 (s : S8) : B32 := (rr s.a 2 ^^^ rr s.a 13 ^^^ rr s.a 22) + ((s.a &&& s.b) ^^^ (s.a &&& s.c) ^^^ (s.b &&& s.c))
def step8 (s : S8) (k w : B32) : S8 := ⟨one8 s k w + two8 s, s.a, s.b, s.c, s.d + one8 s k w, s.e, s.f, s.g⟩
/-- The words behind i steps. -/
def steps8 (ks ws : List B32) (s : S8) : Nat → S8
  | 0 => s
  | i + 1 => step8 (steps8 ks ws s i) (ks.getD i 0) (ws.getD i 0)
def add8 (s t : S8) : S8 := ⟨s.a + t.a, s.b + t.b, s.c + t.c, s.d + t.d, s.e + t.e, s.f + t.f, s.g + t.g, s.h + t.h⟩
def turn8 (ks : List B32) (s : S8) (bs : List B8) : S8 := add8 s (steps8 ks (sched bs) s 64)
/-- The first k words have been added. -/
def mix8 (s t : S8) (k : Nat) : List B32 := (add8 s t).list.take k ++ s.list.drop k
theorem mix8_get (s t : S8) {k : Nat} (hk : k < 8) : (mix8 s t k)[k]? = some (s.list.getD k 0) := by
  match k, hk with
  | 0, _ | 1, _ | 2, _ | 3, _ | 4, _ | 5, _ | 6, _ | 7, _ => rfl
theorem mix8_set (s t : S8) {k : Nat} (hk : k < 8) : (mix8 s t k).set k (s.list.getD k 0 + t.list.getD k 0) = mix8 s t (k + 1) := by
  match k, hk with
  | 0, _ | 1, _ | 2, _ | 3, _ | 4, _ | 5, _ | 6, _ | 7, _ => rfl
theorem mix8_length (s t : S8) {k : Nat} (hk : k ≤ 8) : (mix8 s t k).length = 8 := by
  match k, hk with
  | 0, _ | 1, _ | 2, _ | 3, _ | 4, _ | 5, _ | 6, _ | 7, _ | 8, _ => rfl

/-- The steps' constants lie in their variable. -/
def Roots (ks : List B32) (w : World) : Prop := ∀ i, i < 64 → w.cell? ⟨0, i, none⟩ = some (.int .u32 (nw (ks.getD i 0)))
theorem Roots.pos {ks : List B32} {w : World} (h : Roots ks w) : 0 < w.heap.size := World.block_lt_of_cell? w _ (h 0 (by omega))
theorem Roots.below {ks : List B32} {w w' : World} {B : Nat} (h : Roots ks w) (hb : Below B w w') (hB : 0 < B) : Roots ks w' := fun i hi => (hb.cell hB).trans (h i hi)
theorem Roots.only {ks : List B32} {w w' : World} {S : List Nat} (h : Roots ks w) (hb : Only S w w') (hS : 0 ∉ S) : Roots ks w' := by
  intro i hi
  have h0 := h i hi
  rw [← h0]
  unfold World.cell?
  rw [show (⟨0, i, none⟩ : Addr).block = 0 from rfl, hb.block 0 h.pos hS]

end Go.Proofs.YtkblpcegdfhmoaaDoor
