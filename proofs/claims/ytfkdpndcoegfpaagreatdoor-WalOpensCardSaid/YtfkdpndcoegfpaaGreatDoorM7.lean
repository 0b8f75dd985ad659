/-
  What is read of a sector, behind a write, a flush and a crash that keeps all: plain theorems on states. Conditions: the state is good.
-/
import Derived.Test.YtfkdpndcoegfpaaGreatDoorM6
section
set_option maxRecDepth 100000
set_option linter.unusedSimpArgs false
set_option linter.unusedVariables false
namespace Go.Proofs.YtfkdpndcoegfpaaGreatDoor
open Go.RowKit

def sec (l : List Int) (j : Nat) : List Int := (l.drop (64 * j)).take 64
theorem sec_putS {l bs : List Int} {n k j : Nat} (hl : l.length = 64 * n) (hk : k < n) (hj : j < n) (hb : bs.length = 64) : sec (putS l k bs) j = if j = k then bs else sec l j := by
  apply List.ext_getElem?
  intro i
  unfold sec putS
  by_cases hi : i < 64
  · rw [List.getElem?_take_of_lt hi, List.getElem?_drop]
    by_cases hjk : j = k
    · subst hjk
      rw [if_pos rfl, List.append_assoc, List.getElem?_append_right (by simp; omega), List.getElem?_append_left (by simp; omega)]
      congr 1
      simp
      omega
    · rw [if_neg hjk, List.getElem?_take_of_lt hi, List.getElem?_drop]
      by_cases hlt : j < k
      · rw [List.append_assoc, List.getElem?_append_left (by simp; omega), List.getElem?_take_of_lt (by omega)]
      · rw [List.getElem?_append_right (by simp; omega), List.getElem?_drop]
        congr 1
        simp
        omega
  · rw [List.getElem?_take_eq_none (by omega)]
    by_cases hjk : j = k
    · rw [if_pos hjk, List.getElem?_eq_none (by omega)]
    · rw [if_neg hjk, List.getElem?_take_eq_none (by omega)]

theorem sec_layAll {n j : Nat} (hj : j < n) : ∀ (rs : List (Int × List Int)) (l : List Int), l.length = 64 * n → (∀ p ∈ rs, 0 ≤ p.1 ∧ p.1 < n ∧ p.2.length = 64) →
    sec (layAll l rs.reverse) j = match rs.find? (fun p => p.1 == (j : Int)) with | some p => p.2 | none => sec l j
  | [], l, _, _ => rfl
  | p :: rs, l, hl, hp => by
    have hpp := hp p (by simp)
    rw [List.reverse_cons, layAll_snoc, sec_putS (n := n) (layAll_length _ _ hl (fun q hq => hp q (by simp at hq; simp [hq]))) (by omega) hj hpp.2.2, sec_layAll hj rs l hl (fun q hq => hp q (by simp [hq])), List.find?_cons]
    by_cases h : p.1 = (j : Int)
    · have hb : (p.1 == (j : Int)) = true := by simp [h]
      rw [if_pos (by omega), hb]
    · have hb : (p.1 == (j : Int)) = false := by simpa using h
      rw [if_neg (by omega), hb]

theorem seen_sec {s : St} (hg : Good s) {j : Nat} (hj : j < s.n) : seen s j = sec (layAll s.laid s.waits) j := by
  have := sec_layAll hj s.waits.reverse s.laid hg.size (fun p hp => hg.sec p (by simpa using hp))
  rw [List.reverse_reverse] at this
  rw [this]
  rfl
theorem seen_write {s : St} (hg : Good s) {no j : Nat} {bs : List Int} (hno : no < s.n) (hb : bs.length = 64) (hj : j < s.n) {s' : St} (hg' : Good s') (hn : s'.n = s.n) (hl : s'.laid = s.laid) (hw : s'.waits = s.waits ++ [((no : Int), bs)]) :
    seen s' j = if j = no then bs else seen s j := by
  rw [seen_sec hg' (by omega), seen_sec hg hj, hl, hw, layAll_snoc, sec_putS (n := s.n) (layAll_length _ _ hg.size hg.sec) (by simpa using hno) hj hb]
  rfl
theorem seen_laid {s : St} (hg : Good s) {j : Nat} (hj : j < s.n) {s' : St} (hg' : Good s') (hn : s'.n = s.n) (hl : s'.laid = layAll s.laid s.waits) (hw : s'.waits = []) : seen s' j = seen s j := by
  rw [seen_sec hg' (by omega), seen_sec hg hj, hl, hw]
  rfl
/-- The numbers 0 to m - 1. -/
def upTo (m : Nat) : List Int := (List.range m).map fun (i : Nat) => (i : Int)
theorem upTo_succ (m : Nat) : upTo (m + 1) = upTo m ++ [(m : Int)] := by simp [upTo, List.range_succ]
theorem upTo_length (m : Nat) : (upTo m).length = m := by simp [upTo]
theorem kept_all (ws : List (Int × List Int)) : kept (upTo ws.length) ws = ws := by
  unfold kept
  have : (ws.zipIdx.filter fun x => decide ((x.2 : Int) ∈ upTo ws.length)) = ws.zipIdx := by
    rw [List.filter_eq_self]
    intro x hx
    have := (List.mem_zipIdx' hx).1
    simp [upTo]
    exact ⟨x.2, this, rfl⟩
  rw [this]
  simp

end Go.Proofs.YtfkdpndcoegfpaaGreatDoor
end
