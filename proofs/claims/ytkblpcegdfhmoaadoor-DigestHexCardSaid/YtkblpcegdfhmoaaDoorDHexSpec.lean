/-
  The text of a digest, and back: plain definitions and theorems. No condition.
-/
import Derived.Test.YtkblpcegdfhmoaaDoorDHex
namespace Go.Proofs.YtkblpcegdfhmoaaDoor
open Go.RowKit

def isSign (c : B8) : Bool := (decide (48 ≤ c.toNat) && decide (c.toNat ≤ 57)) || (decide (97 ≤ c.toNat) && decide (c.toNat ≤ 102))
def valB (c : B8) : B8 := if 48 ≤ c.toNat ∧ c.toNat ≤ 57 then c - 48#8 else if 97 ≤ c.toNat ∧ c.toNat ≤ 102 then c - 87#8 else 0#8
def two4 (h l : B8) : B8 := (h <<< 4) ||| l
def dec (T : List B8) : Nat → List B8
  | 0 => []
  | k + 1 => dec T k ++ [two4 (valB (T.getD (2 * k) 0#8)) (valB (T.getD (2 * k + 1) 0#8))]
theorem dec_length (T : List B8) : ∀ k, (dec T k).length = k
  | 0 => rfl
  | k + 1 => by simp [dec, dec_length T k]
def GoodT (T : List B8) : Prop := T.length = 64 ∧ ∀ j, j < 64 → isSign (T.getD j 0#8) = true
instance (T : List B8) : Decidable (GoodT T) := by unfold GoodT; infer_instance
def unhexR (T : List B8) : List B8 × Int := if GoodT T then (dec T 32, 0) else (List.replicate 32 0#8, 3)

theorem val_sign : ∀ i, i < 16 → isSign (sign i) = true ∧ valB (sign i) = BitVec.ofNat 8 i := by decide +kernel
theorem sign_val : ∀ c : B8, isSign c = true → sign (valB c).toNat = c ∧ (valB c).toNat < 16 := by decide +kernel
theorem two_split : ∀ x : B8, two4 (BitVec.ofNat 8 (x.toNat / 16)) (BitVec.ofNat 8 (x.toNat % 16)) = x := by decide +kernel
theorem two_parts0 : ∀ a, a < 16 → ∀ b, b < 16 → (two4 (BitVec.ofNat 8 a) (BitVec.ofNat 8 b)).toNat / 16 = a ∧ (two4 (BitVec.ofNat 8 a) (BitVec.ofNat 8 b)).toNat % 16 = b := by decide +kernel
theorem two_parts {h l : B8} (h1 : h.toNat < 16) (h2 : l.toNat < 16) : (two4 h l).toNat / 16 = h.toNat ∧ (two4 h l).toNat % 16 = l.toNat := by
  have := two_parts0 h.toNat h1 l.toNat h2
  simpa using this

theorem hexS_get (d : List B8) : ∀ (k j : Nat), j < k → (hexS d k).getD (2 * j) 0#8 = sign ((d.getD j 0#8).toNat / 16) ∧ (hexS d k).getD (2 * j + 1) 0#8 = sign ((d.getD j 0#8).toNat % 16)
  | 0, _, h => absurd h (by omega)
  | k + 1, j, h => by
    have hl := hexS_length d k
    by_cases hj : j < k
    · obtain ⟨h1, h2⟩ := hexS_get d k j hj
      unfold hexS
      rw [getD_append_left (by omega), getD_append_left (by omega)]
      exact ⟨h1, h2⟩
    · obtain rfl : j = k := by omega
      unfold hexS
      simp only [List.getD_eq_getElem?_getD]
      rw [List.getElem?_append_right (by omega), List.getElem?_append_right (by omega), hl]
      refine ⟨?_, ?_⟩
      · rw [Nat.sub_self]; rfl
      · rw [show 2 * j + 1 - 2 * j = 1 by omega]; rfl
theorem good_hex (d : List B8) : GoodT (hexS d 32) := by
  refine ⟨hexS_length d 32, fun j hj => ?_⟩
  obtain ⟨h1, h2⟩ := hexS_get d 32 (j / 2) (by omega)
  have hb := (d.getD (j / 2) 0#8).isLt
  rcases Nat.mod_two_eq_zero_or_one j with h | h
  · rw [show j = 2 * (j / 2) by omega, h1]
    exact (val_sign _ (by omega)).1
  · rw [show j = 2 * (j / 2) + 1 by omega, h2]
    exact (val_sign _ (by omega)).1
theorem dec_hex (d : List B8) (hd : d.length = 32) : dec (hexS d 32) 32 = d := by
  have h : ∀ k, k ≤ 32 → dec (hexS d 32) k = d.take k := by
    intro k
    induction k with
    | zero => intro _; rfl
    | succ k ih =>
      intro hk
      obtain ⟨h1, h2⟩ := hexS_get d 32 k (by omega)
      have hb := (d.getD k 0#8).isLt
      unfold dec
      rw [ih (by omega), h1, h2, (val_sign _ (by omega)).2, (val_sign _ (by omega)).2, two_split, List.take_succ_eq_append_getElem (by omega)]
      simp [List.getD_eq_getElem?_getD, List.getElem?_eq_getElem (show k < d.length by omega)]
  rw [h 32 (Nat.le_refl _), List.take_of_length_le (by omega)]
theorem unhex_hex (d : List B8) (hd : d.length = 32) : unhexR (hexS d 32) = (d, 0) := by
  unfold unhexR
  rw [if_pos (good_hex d), dec_hex d hd]
theorem dec_get (T : List B8) : ∀ k j, j < k → (dec T k).getD j 0#8 = two4 (valB (T.getD (2 * j) 0#8)) (valB (T.getD (2 * j + 1) 0#8))
  | 0, _, h => absurd h (by omega)
  | k + 1, j, h => by
    have hl := dec_length T k
    unfold dec
    by_cases hj : j < k
    · rw [getD_append_left (by omega)]
      exact dec_get T k j hj
    · obtain rfl : j = k := by omega
      rw [List.getD_eq_getElem?_getD, List.getElem?_append_right (by omega), hl, Nat.sub_self]
      rfl
theorem hex_dec (T : List B8) (h : GoodT T) : hexS (dec T 32) 32 = T := by
  have hT := h.1
  apply List.ext_getElem?
  intro j
  by_cases hj : j < 64
  · have e : ∀ (l : List B8), l.length = 64 → l[j]? = some (l.getD j 0#8) := fun l hl => by
      rw [List.getD_eq_getElem?_getD, List.getElem?_eq_getElem (by omega)]; rfl
    rw [e _ (hexS_length _ 32), e _ hT]
    obtain ⟨h1, h2⟩ := hexS_get (dec T 32) 32 (j / 2) (by omega)
    rw [dec_get T 32 (j / 2) (by omega)] at h1 h2
    have ga := sign_val _ (h.2 (2 * (j / 2)) (by omega))
    have gb := sign_val _ (h.2 (2 * (j / 2) + 1) (by omega))
    obtain ⟨p1, p2⟩ := two_parts ga.2 gb.2
    rw [p1, ga.1] at h1
    rw [p2, gb.1] at h2
    rcases Nat.mod_two_eq_zero_or_one j with hm | hm
    · have ej : j = 2 * (j / 2) := by omega
      rw [ej, h1]
    · have ej : j = 2 * (j / 2) + 1 := by omega
      rw [ej, h2]
  · rw [List.getElem?_eq_none (by rw [hexS_length]; omega), List.getElem?_eq_none (by omega)]

/-- The document's own way: each sign goes into its place. -/
def upd (x c : B8) : B8 := if isSign c then BitVec.ofNat 8 (16 * (x.toNat % 16) + (valB c).toNat) else x
def refD (T : List B8) : Nat → List B8
  | 0 => List.replicate 32 0#8
  | i + 1 => (refD T i).set (i / 2) (upd ((refD T i).getD (i / 2) 0#8) (T.getD i 0#8))
theorem refD_length (T : List B8) : ∀ i, (refD T i).length = 32
  | 0 => by simp [refD]
  | i + 1 => by simp [refD, refD_length T i]
theorem upd_two0 : ∀ a, a < 16 → ∀ b, b < 16 → BitVec.ofNat 8 (16 * ((BitVec.ofNat 8 (16 * 0 + a) : B8).toNat % 16) + b) = two4 (BitVec.ofNat 8 a) (BitVec.ofNat 8 b) := by decide +kernel
theorem upd_two {a b : B8} (ha : isSign a = true) (hb : isSign b = true) : upd (upd 0#8 a) b = two4 (valB a) (valB b) := by
  unfold upd
  rw [if_pos ha, if_pos hb]
  have := upd_two0 (valB a).toNat (sign_val a ha).2 (valB b).toNat (sign_val b hb).2
  simpa using this
theorem refD_good (T : List B8) (h : GoodT T) : ∀ k, k ≤ 32 → refD T (2 * k) = dec T k ++ List.replicate (32 - k) 0#8
  | 0, _ => by simp [refD, dec]
  | k + 1, hk => by
    have hl := dec_length T k
    have ih := refD_good T h k (by omega)
    obtain ⟨m, hm⟩ : ∃ m, 32 - k = m + 1 := ⟨32 - k - 1, by omega⟩
    rw [hm, List.replicate_succ] at ih
    have e0 : refD T (2 * k + 1) = dec T k ++ upd 0#8 (T.getD (2 * k) 0#8) :: List.replicate m 0#8 := by
      unfold refD
      rw [ih, show 2 * k / 2 = k by omega, List.set_append_right _ _ (by omega), hl, Nat.sub_self, List.set_cons_zero]
      congr 3
      rw [List.getD_eq_getElem?_getD, List.getElem?_append_right (by omega), hl, Nat.sub_self]
      rfl
    rw [show 2 * (k + 1) = 2 * k + 1 + 1 by omega]
    unfold refD
    rw [e0, show (2 * k + 1) / 2 = k by omega, List.set_append_right _ _ (by omega), hl, Nat.sub_self, List.set_cons_zero]
    have hg : (dec T k ++ upd 0#8 (T.getD (2 * k) 0#8) :: List.replicate m 0#8).getD k 0#8 = upd 0#8 (T.getD (2 * k) 0#8) := by
      rw [List.getD_eq_getElem?_getD, List.getElem?_append_right (by omega), hl, Nat.sub_self]
      rfl
    rw [hg, upd_two (h.2 _ (by omega)) (h.2 _ (by omega)), show 32 - (k + 1) = m by omega]
    rw [show dec T (k + 1) = dec T k ++ [two4 (valB (T.getD (2 * k) 0#8)) (valB (T.getD (2 * k + 1) 0#8))] from rfl]
    simp
/-- The document's answer is the program's. -/
theorem ref_same (T : List B8) : unhexR T = if hexS (refD T (min T.length 64)) 32 = T then (refD T (min T.length 64), 0) else (List.replicate 32 0#8, 3) := by
  unfold unhexR
  by_cases h : GoodT T
  · have hr := refD_good T h 32 (Nat.le_refl _)
    rw [Nat.sub_self, List.replicate_zero, List.append_nil] at hr
    rw [if_pos h, h.1, show min 64 64 = 2 * 32 by omega, hr, if_pos (hex_dec T h)]
  · rw [if_neg h, if_neg (fun e => h (by rw [← e]; exact good_hex _))]

end Go.Proofs.YtkblpcegdfhmoaaDoor
