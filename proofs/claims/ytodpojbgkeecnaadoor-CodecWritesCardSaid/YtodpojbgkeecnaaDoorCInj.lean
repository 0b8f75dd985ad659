/-
  Right values with the same bytes are the same; bytes part where a value ends. Plain theorems; conditions: the values are right and small.
-/
import Derived.Test.YtodpojbgkeecnaaDoorCNext
import Derived.Test.YtodpojbgkeecnaaDoorCBuildSpec
set_option linter.unusedSimpArgs false
set_option linter.unusedVariables false
namespace Go.Proofs.YtodpojbgkeecnaaDoor
open Go.RowKit

theorem split_at {P : UInt8 → Prop} : ∀ (d d' : List UInt8) (c c' : UInt8) (r r' : List UInt8), (∀ x ∈ d, P x) → (∀ x ∈ d', P x) → ¬ P c → ¬ P c' → d ++ c :: r = d' ++ c' :: r' → d = d' ∧ c = c' ∧ r = r'
  | [], [], c, c', r, r', _, _, _, _, h => by
    simp only [List.nil_append, List.cons.injEq] at h
    exact ⟨rfl, h.1, h.2⟩
  | [], y :: d', c, c', r, r', _, h2, h3, _, h => by
    simp only [List.nil_append, List.cons_append, List.cons.injEq] at h
    exact absurd (h.1 ▸ h2 y (by simp)) h3
  | x :: d, [], c, c', r, r', h1, _, _, h4, h => by
    simp only [List.nil_append, List.cons_append, List.cons.injEq] at h
    exact absurd (h.1 ▸ h1 x (by simp)) h4
  | x :: d, y :: d', c, c', r, r', h1, h2, h3, h4, h => by
    simp only [List.cons_append, List.cons.injEq] at h
    obtain ⟨e1, e2, e3⟩ := split_at d d' c c' r r' (fun x hx => h1 x (by simp [hx])) (fun x hx => h2 x (by simp [hx])) h3 h4 h.2
    exact ⟨by rw [h.1, e1], e2, e3⟩
/-- A numeral's byte. -/
def Sgn (x : UInt8) : Prop := isD x = true ∨ x = 45
theorem sgn_itoa (n : Int) : ∀ x ∈ Lib.itoa n, Sgn x := fun _ hx => itoa_mem n hx
theorem sgn_no : ¬ Sgn 59 ∧ ¬ Sgn 58 ∧ ¬ Sgn 105 ∧ ¬ Sgn 40 ∧ ¬ Sgn 41 := by
  unfold Sgn
  decide
/-- A value's first byte. -/
theorem enc_head (t : T) : ∃ x r, t.enc = x :: r ∧ x ≠ 41 := by
  obtain ⟨k, n, b, l⟩ := t
  rw [T.enc]
  split
  · exact ⟨105, _, rfl, by decide⟩
  · split
    · cases h : Lib.itoa (b.length : Int) with
      | nil => exact absurd h (itoa_ne _)
      | cons x r =>
        refine ⟨x, _, rfl, ?_⟩
        rintro rfl
        exact sgn_no.2.2.2.2 (sgn_itoa _ 41 (by rw [h]; simp))
    · exact ⟨40, _, rfl, by decide⟩
theorem enc_0 (n : Int) : (T.mk 0 n [] []).enc = 105 :: (Lib.itoa n ++ [59]) := by rw [T.enc, if_pos rfl]
theorem enc_1 (b : List UInt8) : (T.mk 1 0 b []).enc = Lib.itoa (b.length : Int) ++ 58 :: b := by rw [T.enc, if_neg (by omega), if_pos rfl]
theorem enc_2 (l : List T) : (T.mk 2 0 [] l).enc = 40 :: (T.encAll l ++ [41]) := by rw [T.enc, if_neg (by omega), if_neg (by omega)]
theorem itoa_first {n : Int} {s q : List UInt8} {c : UInt8} (hc : ¬ Sgn c) (h : Lib.itoa n ++ s = c :: q) : False := by
  cases hi : Lib.itoa n with
  | nil => exact itoa_ne _ hi
  | cons x r =>
    rw [hi] at h
    simp only [List.cons_append, List.cons.injEq] at h
    exact hc (h.1 ▸ sgn_itoa n x (by rw [hi]; simp))
mutual
theorem enc_inj : ∀ (t t' : T) (r r' : List UInt8), t.ok → t'.ok → t.anyB = false → t'.anyB = false → t.enc ++ r = t'.enc ++ r' → t = t' ∧ r = r'
  | .mk k n b l, .mk k' n' b' l', r, r', ho, ho', ha, ha', h => by
    rw [T.ok] at ho ho'
    rcases T.right_shape ha with ⟨rfl, rfl, rfl⟩ | ⟨rfl, rfl, rfl⟩ | ⟨rfl, rfl, rfl, hl⟩ <;> rcases T.right_shape ha' with ⟨rfl, rfl, rfl⟩ | ⟨rfl, rfl, rfl⟩ | ⟨rfl, rfl, rfl, hl'⟩
    · rw [enc_0, enc_0] at h
      simp only [List.cons_append, List.append_assoc, List.nil_append, List.cons.injEq, true_and] at h
      obtain ⟨e1, _, e2⟩ := split_at (P := Sgn) _ _ _ _ _ _ (sgn_itoa n) (sgn_itoa n') sgn_no.1 sgn_no.1 h
      rw [itoa_inj ho.2.1.1 ho.2.1.2 ho'.2.1.1 ho'.2.1.2 e1, e2]
      exact ⟨rfl, rfl⟩
    · rw [enc_0, enc_1, List.append_assoc] at h
      exact (itoa_first sgn_no.2.2.1 h.symm).elim
    · rw [enc_0, enc_2] at h
      simp at h
    · rw [enc_0, enc_1, List.append_assoc] at h
      exact (itoa_first sgn_no.2.2.1 h).elim
    · rw [enc_1, enc_1, List.append_assoc, List.append_assoc, List.cons_append, List.cons_append] at h
      obtain ⟨e1, _, e2⟩ := split_at (P := Sgn) _ _ _ _ _ _ (sgn_itoa _) (sgn_itoa _) sgn_no.2.1 sgn_no.2.1 h
      have h3 := itoa_inj (by omega) (by omega) (by omega) (by omega) e1
      have h4 := List.append_inj e2 (by omega)
      rw [h4.1, h4.2]
      exact ⟨rfl, rfl⟩
    · rw [enc_1, enc_2, List.append_assoc] at h
      exact (itoa_first sgn_no.2.2.2.1 h).elim
    · rw [enc_0, enc_2] at h
      simp at h
    · rw [enc_1, enc_2, List.append_assoc] at h
      exact (itoa_first sgn_no.2.2.2.1 h.symm).elim
    · rw [enc_2, enc_2] at h
      simp only [List.cons_append, List.append_assoc, List.nil_append, List.cons.injEq, true_and] at h
      obtain ⟨e1, e2⟩ := encAll_inj l l' r r' ho.2.2.2.2 ho'.2.2.2.2 hl hl' h
      rw [e1, e2]
      exact ⟨rfl, rfl⟩
theorem encAll_inj : ∀ (l l' : List T) (r r' : List UInt8), T.okAll l → T.okAll l' → T.anyAll l = false → T.anyAll l' = false → T.encAll l ++ 41 :: r = T.encAll l' ++ 41 :: r' → l = l' ∧ r = r'
  | [], [], r, r', _, _, _, _, h => by
    simp only [T.encAll, List.nil_append, List.cons.injEq, true_and] at h
    exact ⟨rfl, h⟩
  | [], t :: l', r, r', _, _, _, _, h => by
    obtain ⟨x, q, hx, hne⟩ := enc_head t
    rw [T.encAll, T.encAll, hx] at h
    simp only [List.nil_append, List.cons_append, List.cons.injEq] at h
    exact absurd h.1.symm hne
  | t :: l, [], r, r', _, _, _, _, h => by
    obtain ⟨x, q, hx, hne⟩ := enc_head t
    rw [T.encAll, T.encAll, hx] at h
    simp only [List.nil_append, List.cons_append, List.cons.injEq] at h
    exact absurd h.1 hne
  | t :: l, t' :: l', r, r', ho, ho', ha, ha', h => by
    rw [T.okAll] at ho ho'
    rw [T.anyAll, Bool.or_eq_false_iff] at ha ha'
    rw [T.encAll, T.encAll, List.append_assoc, List.append_assoc] at h
    obtain ⟨e1, e2⟩ := enc_inj t t' _ _ ho.1 ho'.1 ha.1 ha'.1 h
    obtain ⟨e3, e4⟩ := encAll_inj l l' r r' ho.2 ho'.2 ha.2 ha'.2 e2
    rw [e1, e3, e4]
    exact ⟨rfl, rfl⟩
end
theorem enc_same {t t' : T} (h1 : t.ok) (h2 : t'.ok) (h3 : t.anyB = false) (h4 : t'.anyB = false) : (t.enc = t'.enc) ↔ t = t' :=
  ⟨fun h => (enc_inj t t' [] [] h1 h2 h3 h4 (by rw [h])).1, fun h => by rw [h]⟩

end Go.Proofs.YtodpojbgkeecnaaDoor
