/-
  Names, as plain answers: which signs a name has, and what a name is. Plain definitions and theorems; no condition.
-/
import Derived.Test.YtammomjnigalbaaBMem
import Derived.Lib.Hide
set_option linter.unusedSimpArgs false
set_option linter.unusedVariables false
set_option maxRecDepth 100000
namespace Go.Proofs.Ytammomjnigalbaa
open Go.RowKit

theorem pnew (w : World) (o : Obj) : Below w.heap.size w (w.alloc o) := (Below.refl _ _).alloc (Nat.le_refl _) _
theorem pdrew (w : World) : Below w.heap.size w w.drew := ⟨rfl, rfl, rfl, Nat.le_refl _, fun _ _ => rfl⟩
theorem pdrewN (w : World) (n : Nat) : Below w.heap.size w (w.drewN n) := ⟨rfl, rfl, rfl, Nat.le_refl _, fun _ _ => rfl⟩
theorem pthen {w a b : World} (h : Below w.heap.size w a) (k : Below a.heap.size a b) : Below w.heap.size w b := h.trans (k.mono h.size)
theorem pcell_below {w w' : World} {b o : Nat} {u : Value} (h : w.cell? ⟨b, o, none⟩ = some u) (hb : Below w.heap.size w w') : w'.cell? ⟨b, o, none⟩ = some u := (hb.cell (p := ⟨b, o, none⟩) (World.block_lt_of_cell? w _ h)).trans h
theorem pret_bool {a b : Bool} (h : a = b) : Ending.returned (.bool a) = .returned (.bool b) := by rw [h]
theorem pret_num {k : IntKind} {a b : Int} (h : a = b) : Ending.returned (.int k a) = .returned (.int k b) := by rw [h]

/-- The first and the last sign of each row. -/
def sgF (k : Nat) : Int := [97, 48, 46, 45, 95].getD k 0
def sgL (k : Nat) : Int := [122, 57, 46, 45, 95].getD k 0
def inRow (c : Int) (k : Nat) : Bool := decide (sgF k ≤ c) && decide (c ≤ sgL k)
def isSg (c : Int) : Bool := inRow c 0 || inRow c 1 || inRow c 2 || inRow c 3 || inRow c 4
theorem isSg_row {c : Int} {k : Nat} (hk : k < 5) (h : inRow c k = true) : isSg c = true := by
  unfold isSg
  match k, hk with
  | 0, _ | 1, _ | 2, _ | 3, _ | 4, _ => simp [h]
theorem isSg_none {c : Int} (h : ∀ k, k < 5 → inRow c k = false) : isSg c = false := by
  unfold isSg
  simp [h 0, h 1, h 2, h 3, h 4]
/-- The sign at a place of a text. -/
def sgAt (t : ByteArray) (j : Nat) : Int := ((t.data.toList.getD j 0).toNat : Int)
/-- Is a text a name? -/
def pnameB (t : ByteArray) : Bool := !(t.data.toList == []) && decide (t.size ≤ 24) && !(t.data.toList == [46]) && !(t.data.toList == [46, 46]) && t.data.toList.all fun c => isSg (c.toNat : Int)
theorem all_at {t : ByteArray} (h : ∀ j, j < t.size → isSg (sgAt t j) = true) : (t.data.toList.all fun c => isSg (c.toNat : Int)) = true := by
  rw [List.all_eq_true]
  intro c hc
  obtain ⟨j, hj, rfl⟩ := List.mem_iff_getElem.1 hc
  have := h j (by rw [Array.length_toList] at hj; exact hj)
  unfold sgAt at this
  rwa [List.getD_eq_getElem?_getD, List.getElem?_eq_getElem hj] at this
theorem all_not {t : ByteArray} {j : Nat} (hj : j < t.size) (h : isSg (sgAt t j) = false) : (t.data.toList.all fun c => isSg (c.toNat : Int)) = false := by
  rw [List.all_eq_false]
  have hj' : j < t.data.toList.length := by rw [Array.length_toList]; exact hj
  refine ⟨t.data.toList[j], List.getElem_mem hj', ?_⟩
  unfold sgAt at h
  rw [List.getD_eq_getElem?_getD, List.getElem?_eq_getElem hj'] at h
  simpa using h

/-- The variable of the signs holds them. -/
def sgCells : List Value := [.int .u8 97, .int .u8 122, .int .u8 48, .int .u8 57, .int .u8 46, .int .u8 46, .int .u8 45, .int .u8 45, .int .u8 95, .int .u8 95]
theorem padd (g o j : Nat) : (⟨g, o, none⟩ : Addr).add j = ⟨g, o + j, none⟩ := by unfold Addr.add; split <;> simp_all
end Go.Proofs.Ytammomjnigalbaa
