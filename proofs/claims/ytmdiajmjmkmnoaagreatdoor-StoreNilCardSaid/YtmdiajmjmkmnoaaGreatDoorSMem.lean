/-
  Packages as values: revisions, a list of them that lies in memory, what is wrong with a package. Plain definitions and theorems; no condition.
-/
import Derived.Test.YtmdiajmjmkmnoaaGreatDoorPName
import Derived.Test.YtmdiajmjmkmnoaaGreatDoorDWhole
set_option linter.unusedSimpArgs false
set_option linter.unusedVariables false
set_option maxRecDepth 100000
namespace Go.Proofs.YtmdiajmjmkmnoaaGreatDoor
open Go.RowKit

/-- A revision. -/
structure RevR where
  no : Int
  sl : List Int
  size : Int
def rvC (r : RevR) : List Value := .int .i64 r.no :: (U r.sl ++ [.int .i64 r.size])
theorem rvC_length {r : RevR} (h : r.sl.length = 32) : (rvC r).length = 34 := by simp [rvC, U_length, h]
theorem rvC_one (r : RevR) : ∀ u ∈ rvC r, u.oneCell' = true := by
  intro u hu
  unfold rvC at hu
  rcases List.mem_cons.1 hu with rfl | hu
  · rfl
  · rcases List.mem_append.1 hu with hu | hu
    · exact U_oneCell _ u hu
    · simp at hu; subst hu; rfl
theorem rvC_no (r : RevR) : (rvC r)[0]? = some (.int .i64 r.no) := rfl
theorem rvC_size {r : RevR} (h : r.sl.length = 32) : (rvC r)[33]? = some (.int .i64 r.size) := by
  unfold rvC
  rw [List.getElem?_cons_succ, List.getElem?_append_right (by rw [U_length]; omega), U_length, h]
  rfl

/-- Revisions that lie in memory. -/
structure RIn (w : World) (A : Option Addr) (n c : Nat) (rs : List RevR) : Prop where
  len : rs.length = n
  cap : n ≤ c
  big : n ≤ 9223372036854775807
  seals : ∀ r ∈ rs, r.sl.length = 32
  cells : 0 < n → ∃ g o, A = some ⟨g, o, none⟩ ∧ g < w.heap.size ∧ ∀ (i : Nat) (r : RevR), rs[i]? = some r → w.rangeAt g (o + i * 34) (rvC r)
theorem RIn.below {w w' : World} {A : Option Addr} {n c : Nat} {rs : List RevR} (h : RIn w A n c rs) (hb : Below w.heap.size w w') : RIn w' A n c rs := by
  refine ⟨h.len, h.cap, h.big, h.seals, fun hn => ?_⟩
  obtain ⟨g, o, hA, hg, hc⟩ := h.cells hn
  refine ⟨g, o, hA, Nat.lt_of_lt_of_le hg hb.size, fun i r hr j v hv => ?_⟩
  exact (hb.cell (p := ⟨g, _, none⟩) hg).trans (hc i r hr j v hv)

/-- Are numbers and sizes as they must be, and do numbers rise? -/
def oneB (last no sz : Int) : Bool := decide (last < no) && decide (no ≤ 999999) && decide (0 ≤ sz) && decide (sz ≤ 131072)
theorem oneB_yes {last no sz : Int} (h : last < no ∧ no ≤ 999999 ∧ 0 ≤ sz ∧ sz ≤ 131072) : oneB last no sz = true := by simp [oneB, h.1, h.2.1, h.2.2.1, h.2.2.2]
theorem oneB_no {last no sz : Int} (h : ¬ (last < no ∧ no ≤ 999999 ∧ 0 ≤ sz ∧ sz ≤ 131072)) : oneB last no sz = false := by
  cases hq : oneB last no sz with
  | false => rfl
  | true =>
    simp only [oneB, Bool.and_eq_true, decide_eq_true_eq] at hq
    exact absurd ⟨hq.1.1.1, hq.1.1.2, hq.1.2, hq.2⟩ h
def risingB : Int → List RevR → Bool
  | _, [] => true
  | last, r :: rs => oneB last r.no r.size && risingB r.no rs
def hasNo (act : Int) (rs : List RevR) : Bool := rs.any fun r => decide (r.no = act)
/-- What is wrong with a package. -/
def chkN (nm pb : ByteArray) (act : Int) (rs : List RevR) : Int :=
  if !nameB nm || !nameB pb then 10 else if rs.length < 1 ∨ 3 < rs.length then 2 else if !risingB 0 rs then 1 else if !hasNo act rs then 7 else 0
abbrev pkV (nm pb : ByteArray) (act : Int) (A : Option Addr) (n c : Nat) : Value := .agg #[.string nm, .string pb, .int .i64 act, .slice A n c]
theorem infoRev : (Tryz.prog.info? 76).map (·.size) = some 34 := by kernel_rfl
def zeroRev : List Value := .int .i64 0 :: (List.replicate 32 (.int .u8 0) ++ [.int .i64 0])
end Go.Proofs.YtmdiajmjmkmnoaaGreatDoor
