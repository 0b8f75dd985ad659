/-
  The state of a disk as plain data, what the methods make of it, and when memory holds it. Plain definitions and theorems; no condition.
-/
import Derived.Test.YthphaidaknkedaaBMem
namespace Go.Proofs.Ythphaidaknkedaa
open Go.RowKit

/-- A disk: power, what it is armed with, laid bytes (64 for each of n sectors), waiting writes, counts. -/
structure St where
  on : Bool
  armed : Bool
  left : Int
  n : Nat
  lc : Nat
  laid : List Int
  tl : List Value
  waits : List (Int × List Int)
  wr : Int
  fl : Int

/-- The cells of the disk's own block. -/
def dk (on armed : Bool) (left : Int) (L n lc : Nat) (wv : Value) (wr fl : Int) : List Value :=
  [.bool on, .bool armed, .int .i64 left, .slice (some ⟨L, 0, none⟩) (64 * n) lc, wv, .int .i64 wr, .int .i64 fl]

/-- The cells of the waiting writes. -/
def W (ws : List (Int × List Int)) : List Value := ws.flatMap fun p => .int .i64 p.1 :: U p.2

structure Good (s : St) : Prop where
  size : s.laid.length = 64 * s.n
  n1 : 1 ≤ s.n
  n2 : s.n ≤ 4096
  sec : ∀ p ∈ s.waits, 0 ≤ p.1 ∧ p.1 < s.n ∧ p.2.length = 64
  left0 : 0 ≤ s.left
  left1 : s.left ≤ 9223372036854775807
  cap : s.waits.length ≤ 1000000
  wr0 : 0 ≤ s.wr
  wr1 : s.wr ≤ 1000000
  fl0 : 0 ≤ s.fl
  fl1 : s.fl ≤ 1000000
  lc0 : 64 * s.n ≤ s.lc

structure IsDisk (B : Nat) (w : World) (D L : Nat) (wv : Value) (s : St) : Prop where
  disk : Blk w D 69 (dk s.on s.armed s.left L s.n s.lc wv s.wr s.fl)
  laid : Blk w L 5 (U s.laid ++ s.tl)
  own : w.ownsRow B 73 65 wv s.waits.length (W s.waits)
  baseD : B ≤ D
  baseL : B ≤ L
  good : Good s

theorem dk_cells {w : World} {D : Nat} {t : TypeId} {on armed : Bool} {left : Int} {L n lc : Nat} {wv : Value} {wr fl : Int} (h : Blk w D t (dk on armed left L n lc wv wr fl)) :
    w.cell? ⟨D, 0, none⟩ = some (.bool on) ∧ w.cell? ⟨D, 1, none⟩ = some (.bool armed) ∧ w.cell? ⟨D, 2, none⟩ = some (.int .i64 left) ∧
    w.cell? ⟨D, 3, none⟩ = some (.slice (some ⟨L, 0, none⟩) (64 * n) lc) ∧ w.cell? ⟨D, 4, none⟩ = some wv ∧
    w.cell? ⟨D, 5, none⟩ = some (.int .i64 wr) ∧ w.cell? ⟨D, 6, none⟩ = some (.int .i64 fl) :=
  ⟨h.cell 0, h.cell 1, h.cell 2, h.cell 3, h.cell 4, h.cell 5, h.cell 6⟩

/-- Laid bytes behind the laying of a sector. -/
def putS (laid : List Int) (k : Nat) (bs : List Int) : List Int := laid.take (64 * k) ++ bs ++ laid.drop (64 * k + 64)
theorem putS_length {laid bs : List Int} {k n : Nat} (hl : laid.length = 64 * n) (hk : k < n) (hb : bs.length = 64) : (putS laid k bs).length = 64 * n := by
  simp [putS]; omega

theorem W_get : ∀ (ws : List (Int × List Int)), (∀ p ∈ ws, p.2.length = 64) → ∀ (i : Nat) (p : Int × List Int), ws[i]? = some p →
    (W ws)[i * 65]? = some (.int .i64 p.1) ∧ ∀ j x, p.2[j]? = some x → (W ws)[i * 65 + 1 + j]? = some (.int .u8 x)
  | [], _, _, _, h => by simp at h
  | q :: ws, hw, i, p, h => by
    have hq : (Value.int .i64 q.1 :: U q.2).length = 65 := by simp [U_length, hw q (by simp)]
    have hW : W (q :: ws) = (Value.int .i64 q.1 :: U q.2) ++ W ws := by simp [W]
    match i, h with
    | 0, h =>
      simp only [List.getElem?_cons_zero, Option.some.injEq] at h
      subst h
      refine ⟨by rw [hW]; simp, fun j x hx => ?_⟩
      have hj : j < q.2.length := (List.getElem?_eq_some_iff.1 hx).1
      have hj2 := hw q (by simp)
      rw [hW, List.getElem?_append_left (by omega), show 0 * 65 + 1 + j = j + 1 by omega, List.getElem?_cons_succ, U_get, hx]
      rfl
    | i + 1, h =>
      simp only [List.getElem?_cons_succ] at h
      obtain ⟨h1, h2⟩ := W_get ws (fun p hp => hw p (by simp [hp])) i p h
      refine ⟨?_, fun j x hx => ?_⟩
      · rw [hW, List.getElem?_append_right (by omega), hq, show (i + 1) * 65 - 65 = i * 65 by omega]; exact h1
      · rw [hW, List.getElem?_append_right (by omega), hq, show (i + 1) * 65 + 1 + j - 65 = i * 65 + 1 + j by omega]; exact h2 j x hx

/-- The slice of the waiting writes, and its cells. -/
theorem IsDisk.form {B : Nat} {w : World} {D L : Nat} {wv : Value} {s : St} (h : IsDisk B w D L wv s) : ∃ A c, wv = .slice A s.waits.length c ∧ ∀ i p, s.waits[i]? = some p →
    ∃ g, A = some ⟨g, 0, none⟩ ∧ w.cell? ⟨g, i * 65, none⟩ = some (.int .i64 p.1) ∧ ∀ j x, p.2[j]? = some x → w.cell? ⟨g, i * 65 + 1 + j, none⟩ = some (.int .u8 x) := by
  rcases h.own.2 with ⟨rfl, hn⟩ | ⟨g, cap, cur, rfl, _, hg, hnc, _, hs, ht⟩
  · refine ⟨none, 0, by rw [hn], fun i p hp => ?_⟩
    rw [List.getElem?_eq_none (by omega)] at hp
    cases hp
  · refine ⟨some ⟨g, 0, none⟩, cap, rfl, fun i p hp => ⟨g, rfl, ?_⟩⟩
    have hcell : ∀ k u, (W s.waits)[k]? = some u → w.cell? ⟨g, k, none⟩ = some u := by
      intro k u hu
      rw [cell_of_row w g k cur _ (0, 0) hg]
      rw [← ht, List.getElem?_take] at hu
      split at hu
      · simpa using hu
      · cases hu
    obtain ⟨h1, h2⟩ := W_get s.waits (fun p hp => (h.good.sec p hp).2.2) i p hp
    exact ⟨hcell _ _ h1, fun j x hx => hcell _ _ (h2 j x hx)⟩

/-- What is read of a sector: the last waiting write of it, or what is laid. -/
def seen (s : St) (k : Nat) : List Int :=
  match s.waits.reverse.find? (fun p => p.1 == (k : Int)) with
  | some p => p.2
  | none => (s.laid.drop (64 * k)).take 64

/-- The disk is held again, and what else was there is as it was, but for the blocks of S. -/
def DiskPost (B D L : Nat) (S : List Nat) (w : World) (s : St) (w' : World) : Prop := ∃ wv', IsDisk B w' D L wv' s ∧ Only S w w'

/-- What is left behind a write or a flush. -/
def nextLeft (armed : Bool) (left : Int) : Int := if armed = true then left - 1 else left

theorem left_ok {s : St} (hg : Good s) (hs : ¬ (s.armed = true ∧ s.left = 0)) : 0 ≤ nextLeft s.armed s.left ∧ nextLeft s.armed s.left ≤ 9223372036854775807 := by
  unfold nextLeft
  have h0 := hg.left0
  have h1 := hg.left1
  by_cases h : s.armed = true
  · rw [if_pos h]
    have : s.left ≠ 0 := fun e => hs ⟨h, e⟩
    omega
  · rw [if_neg h]; omega

/-- Laid bytes behind the laying of these writes, in order. -/
def layAll (laid : List Int) (ws : List (Int × List Int)) : List Int := ws.foldl (fun l p => putS l p.1.toNat p.2) laid
theorem layAll_snoc (laid : List Int) (ws : List (Int × List Int)) (p : Int × List Int) : layAll laid (ws ++ [p]) = putS (layAll laid ws) p.1.toNat p.2 := by simp [layAll]
theorem layAll_length {n : Nat} : ∀ (ws : List (Int × List Int)) (laid : List Int), laid.length = 64 * n → (∀ p ∈ ws, 0 ≤ p.1 ∧ p.1 < n ∧ p.2.length = 64) → (layAll laid ws).length = 64 * n
  | [], _, h, _ => h
  | p :: ws, laid, h, hw => by
    have := hw p (by simp)
    exact layAll_length ws _ (putS_length h (by omega) this.2.2) (fun q hq => hw q (by simp [hq]))

/-- What Flush makes of a state. -/
def St.flush (s : St) : Int × St :=
  if s.on = false then (9, s)
  else if s.armed = true ∧ s.left = 0 then (9, { s with on := false })
  else (0, { s with left := nextLeft s.armed s.left, laid := layAll s.laid s.waits, waits := [], fl := s.fl + 1 })

/-- What Write makes of a state: the error's number, the state behind it. -/
def St.write (s : St) (no : Int) (bs : List Int) : Int × St :=
  if s.on = false then (9, s)
  else if ¬ (0 ≤ no ∧ no < s.n ∧ bs.length = 64) then (1, s)
  else if s.armed = true ∧ s.left = 0 then (9, { s with on := false })
  else (0, { s with left := nextLeft s.armed s.left, waits := s.waits ++ [(no, bs)], wr := s.wr + 1 })

end Go.Proofs.Ythphaidaknkedaa
