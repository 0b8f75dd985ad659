/-
  Numerals and bytes, plainly: a numeral reads as its number; two right values with the same bytes are the same. No condition but those in each.
-/
import Derived.Test.YtodpojbgkeecnaaDoorCNumeral
import Derived.Test.YtodpojbgkeecnaaDoorCSize
import Derived.Test.YtodpojbgkeecnaaDoorCAny
import Derived.Lib.AtoiAll
set_option linter.unusedSimpArgs false
set_option linter.unusedVariables false
namespace Go.Proofs.YtodpojbgkeecnaaDoor
open Go.RowKit

theorem digit_nat (k : Nat) (h : k < 10) : (UInt8.ofNat (48 + k)).toNat = 48 + k := by simp; omega
theorem parse_snoc : ∀ (l : List UInt8) (acc a : Nat) (c : UInt8), Lib.parseUint10 acc l = .ok a → Lib.parseUint10 acc (l ++ [c]) = Lib.parseUint10 a [c]
  | [], acc, a, c, h => by
    simp only [Lib.parseUint10] at h
    injection h with h
    subst h
    rfl
  | x :: l, acc, a, c, h => by
    simp only [List.cons_append, Lib.parseUint10] at h ⊢
    split at h
    · rename_i h1
      rw [if_pos h1]
      split at h
      · cases h
      · rename_i h2
        rw [if_neg h2]
        split at h
        · cases h
        · rename_i h3
          rw [if_neg h3]
          have := parse_snoc l _ a c h
          simp only [Lib.parseUint10] at this
          exact this
    · cases h
theorem parse_dec (u : Nat) (h : u < 18446744073709551616) : Lib.parseUint10 0 (Lib.decDigits u) = .ok u := by
  induction u using Nat.strongRecOn with
  | _ u ih =>
    rw [Lib.decDigits]
    split
    · rename_i h10
      have := digit_nat u h10
      simp only [Lib.parseUint10, this]
      rw [if_pos (by omega), if_neg (by omega), if_neg (by omega)]
      congr 1
      omega
    · rename_i h10
      rw [parse_snoc _ _ _ _ (ih (u / 10) (by omega) (by omega))]
      have := digit_nat (u % 10) (by omega)
      simp only [Lib.parseUint10, this]
      rw [if_pos (by omega), if_neg (by omega), if_neg (by omega)]
      congr 1
      omega
theorem dec_digits (u : Nat) : ∀ x ∈ Lib.decDigits u, isD x = true := by
  induction u using Nat.strongRecOn with
  | _ u ih =>
    intro x hx
    rw [Lib.decDigits] at hx
    split at hx
    · rename_i h10
      simp only [List.mem_singleton] at hx
      subst hx
      have := digit_nat u h10
      simp [isD, this]
      omega
    · rename_i h10
      rcases List.mem_append.1 hx with hx | hx
      · exact ih (u / 10) (by omega) x hx
      · simp only [List.mem_singleton] at hx
        subst hx
        have := digit_nat (u % 10) (by omega)
        simp [isD, this]
        omega
theorem dec_ne (u : Nat) : Lib.decDigits u ≠ [] := by
  rw [Lib.decDigits]
  split <;> simp
/-- The first digit is 0 of 0 alone. -/
theorem dec_head (u : Nat) (x : UInt8) (r : List UInt8) (h : Lib.decDigits u = x :: r) (hx : x.toNat = 48) : u = 0 := by
  induction u using Nat.strongRecOn generalizing x r with
  | _ u ih =>
    rw [Lib.decDigits] at h
    split at h
    · rename_i h10
      injection h with h1 h2
      have := digit_nat u h10
      rw [h1] at this
      omega
    · rename_i h10
      cases hd : Lib.decDigits (u / 10) with
      | nil => exact absurd hd (dec_ne _)
      | cons y s =>
        rw [hd] at h
        injection h with h1 h2
        have := ih (u / 10) (by omega) y s hd (by rw [h1]; exact hx)
        omega
theorem itoa_ne (n : Int) : Lib.itoa n ≠ [] := by
  unfold Lib.itoa
  split
  · simp
  · exact dec_ne _
theorem isD_45 : isD 45 = false := by decide
theorem isD_43 : isD 43 = false := by decide
theorem mem_isD {x : UInt8} (h : isD x = true) : x.toNat ≠ 45 ∧ x.toNat ≠ 43 := by
  simp only [isD, Bool.and_eq_true, decide_eq_true_eq] at h
  omega
theorem atoi_itoa (n : Int) (h0 : -9223372036854775808 ≤ n) (h1 : n ≤ 9223372036854775807) : Lib.atoiAll (Lib.itoa n) = .ok n := by
  unfold Lib.itoa
  split
  · rename_i hneg
    simp only [Lib.atoiAll]
    rw [if_pos (by right; rfl)]
    have hm : Lib.parseMag (Lib.decDigits n.natAbs) = .ok n.natAbs := by
      unfold Lib.parseMag
      rw [if_neg (dec_ne _), parse_dec _ (by omega)]
    rw [hm]
    simp only
    rw [if_neg (by simp), if_neg (by simp; omega)]
    simp
    omega
  · rename_i hneg
    cases hd : Lib.decDigits n.toNat with
    | nil => exact absurd hd (dec_ne _)
    | cons c r =>
      have hc := mem_isD (dec_digits n.toNat c (by rw [hd]; simp))
      simp only [Lib.atoiAll]
      rw [if_neg (by omega)]
      have hm : Lib.parseMag (c :: r) = .ok n.toNat := by
        unfold Lib.parseMag
        rw [if_neg (by simp), ← hd, parse_dec _ (by omega)]
      rw [hm]
      simp only
      rw [if_neg (by omega), if_neg (by omega), if_neg hc.1]
      congr 1
      omega
theorem itoa_inj {n m : Int} (hn0 : -9223372036854775808 ≤ n) (hn1 : n ≤ 9223372036854775807) (hm0 : -9223372036854775808 ≤ m) (hm1 : m ≤ 9223372036854775807) (h : Lib.itoa n = Lib.itoa m) : n = m := by
  have h1 := atoi_itoa n hn0 hn1
  rw [h, atoi_itoa m hm0 hm1] at h1
  injection h1 with h1
  exact h1.symm
/-- A numeral's signs: digits, and a minus that is the first. -/
theorem itoa_signs (n : Int) : ∀ (j : Nat) (x : UInt8), (Lib.itoa n)[j]? = some x → isD x = true ∨ (j = 0 ∧ x = 45) := by
  intro j x hx
  unfold Lib.itoa at hx
  split at hx
  · cases j with
    | zero => right; simp at hx; exact ⟨rfl, hx.symm⟩
    | succ j => left; exact dec_digits _ x (List.mem_of_getElem? (by simpa using hx))
  · left; exact dec_digits _ x (List.mem_of_getElem? hx)
theorem itoa_mem (n : Int) {x : UInt8} (h : x ∈ Lib.itoa n) : isD x = true ∨ x = 45 := by
  obtain ⟨j, hj⟩ := List.mem_iff_getElem?.1 h
  rcases itoa_signs n j x hj with h | h
  · exact .inl h
  · exact .inr h.2
theorem signs_itoa (n : Int) (c : UInt8) (r : List UInt8) (hc : isD c = false) : Signs (Lib.itoa n) (c :: r) :=
  ⟨itoa_signs n, fun y hy => by
    simp only [List.getElem?_cons_zero, Option.some.injEq] at hy
    subst hy
    exact ⟨hc, fun h => absurd h (itoa_ne n)⟩⟩

/-- Is a numeral written the one way? -/
def plainB (d : List UInt8) : Bool := match Lib.trimPrefix d [45] with
  | [] => false
  | x :: _ => if x = 48 then decide (d = [48]) else true
theorem trim_minus (r : List UInt8) : Lib.trimPrefix (45 :: r) [45] = r := by simp [Lib.trimPrefix, Lib.hasPrefix]
theorem trim_digit {x : UInt8} (r : List UInt8) (h : x ≠ 45) : Lib.trimPrefix (x :: r) [45] = x :: r := by
  unfold Lib.trimPrefix
  rw [if_neg]
  simp [Lib.hasPrefix, List.isPrefixOf]
  exact fun e => h e.symm
theorem plain_itoa (n : Int) : plainB (Lib.itoa n) = true := by
  unfold Lib.itoa
  split
  · rename_i hneg
    unfold plainB
    rw [trim_minus]
    cases hd : Lib.decDigits n.natAbs with
    | nil => exact absurd hd (dec_ne _)
    | cons x r =>
      simp only
      rw [if_neg]
      intro e
      have := dec_head _ x r hd (by rw [e]; rfl)
      omega
  · cases hd : Lib.decDigits n.toNat with
    | nil => exact absurd hd (dec_ne _)
    | cons x r =>
      unfold plainB
      have hx := dec_digits n.toNat x (by rw [hd]; simp)
      rw [trim_digit r (by intro e; rw [e, isD_45] at hx; cases hx)]
      simp only
      split
      · rename_i e
        have h0 := dec_head _ x r hd (by rw [e]; rfl)
        rw [h0] at hd
        have : Lib.decDigits 0 = [48] := by rw [Lib.decDigits, dif_pos (by omega)]; rfl
        rw [this] at hd
        rw [← hd]
        simp
      · rfl

end Go.Proofs.YtodpojbgkeecnaaDoor
