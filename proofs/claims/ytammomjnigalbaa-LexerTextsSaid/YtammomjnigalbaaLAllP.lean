/-
  All tokens by reading one after the other, plainly. Plain theorems; no condition.
-/
import Derived.Test.YtammomjnigalbaaLToken
set_option linter.unusedSimpArgs false
set_option linter.unusedVariables false
set_option maxRecDepth 100000
namespace Go.Proofs.Ytammomjnigalbaa
open Go.RowKit

theorem skp_drop {n : Nat} {l : By} : (skp n l).1 = l.drop (gapL false l) := rfl
theorem tokN_end {n : Nat} {l : By} (h : (skp n l).1 = []) : tokN n l = ⟨tkZ, 4, [], (skp n l).2⟩ := by unfold tokN; rw [h]; rfl
theorem lexL_tokN (n : Nat) (l : By) : ((tokN n l).err = 0 ∧ lexL n l = ⟨(tokN n l).tk :: (lexL (tokN n l).line (tokN n l).left).ts, (lexL (tokN n l).line (tokN n l).left).line, (lexL (tokN n l).line (tokN n l).left).err⟩ ∧ (tokN n l).left.length < l.length ∧ (tokN n l).tk.line = (tokN n l).line ∧ tokL (tokN n l).tk.text = some ((tokN n l).tk.kind, (tokN n l).tk.text.length)) ∨
    ((tokN n l).err ≠ 0 ∧ lexL n l = ⟨[], (tokN n l).line, (tokN n l).err⟩ ∧ (tokN n l).tk = tkZ) := by
  cases hd : l.drop (gapL false l) with
  | nil =>
    have e : tokN n l = ⟨tkZ, 4, [], (skp n l).2⟩ := tokN_end hd
    rw [e]
    refine .inr ⟨(by dsimp only; decide), ?_, rfl⟩
    rw [lexL_end hd]
    show Lx.mk [] (n + nlsL l) 4 = Lx.mk [] (n + nlsL (l.take (gapL false l))) 4
    rw [drop_nil_len (gapL_le l false) hd, List.take_length]
  | cons c r =>
    have e0 : tokN n l = tokB (c :: r) (skp n l).2 := by unfold tokN; rw [skp_drop, hd]
    cases ht : tokL (c :: r) with
    | none =>
      rw [e0, tokB_bad ht]
      exact .inr ⟨(by dsimp only; decide), lexL_bad (by rw [hd]; simp) (by rw [hd]; exact ht) n, rfl⟩
    | some p =>
      obtain ⟨k, m⟩ := p
      cases hl : longL k m with
      | true =>
        rw [e0, tokB_long ht hl]
        exact .inr ⟨(by dsimp only; decide), lexL_long (by rw [hd]; exact ht) hl n, rfl⟩
      | false =>
        rw [e0, tokB_tok ht hl]
        have h1 := lexL_tok (l := l) (by rw [hd]; exact ht) hl n
        rw [hd] at h1
        have h2 := tok_rest (l := l) (by rw [hd]; exact ht)
        rw [hd] at h2
        have h3 := tokL_take ht
        have h4 := tokL_len ht
        refine .inl ⟨rfl, h1, h2, rfl, ?_⟩
        dsimp only
        rw [h3, List.length_take, Nat.min_eq_left h4.2]
theorem tokN_line (n : Nat) (l : By) : (tokN n l).line ≤ n + nlsL l ∧ (tokN n l).left.length ≤ l.length ∧ n ≤ (tokN n l).line := by
  have hb : ∀ q : By × Nat, (tokB q.1 q.2).line = q.2 ∧ (tokB q.1 q.2).left.length ≤ q.1.length := by
    intro q
    obtain ⟨m, k⟩ := q
    cases m with
    | nil => exact ⟨rfl, Nat.le_refl _⟩
    | cons c r =>
      cases ht : tokL (c :: r) with
      | none => rw [tokB_bad ht]; exact ⟨rfl, Nat.le_refl _⟩
      | some p =>
        obtain ⟨a, b⟩ := p
        cases hl : longL a b with
        | true => rw [tokB_long ht hl]; exact ⟨rfl, Nat.le_refl _⟩
        | false => rw [tokB_tok ht hl]; exact ⟨rfl, by simp⟩
  have h1 := hb (skp n l)
  have h2 : nlsL l = nlsL (l.take (gapL false l)) + nlsL (l.drop (gapL false l)) := by rw [← nlsL_app, List.take_append_drop]
  refine ⟨?_, Nat.le_trans h1.2 (skp_len n l), ?_⟩
  · unfold tokN
    rw [h1.1]
    show n + nlsL (l.take (gapL false l)) ≤ _
    omega
  · unfold tokN
    rw [h1.1]
    show n ≤ n + nlsL (l.take (gapL false l))
    omega
theorem nlsL_le (l : By) : nlsL l ≤ l.length := List.countP_le_length
/-- The lines that are ahead, and all that may come. -/
theorem tokN_room (n : Nat) (l : By) : (tokN n l).line + nlsL (tokN n l).left ≤ n + nlsL l := by
  have hb : ∀ q : By × Nat, (tokB q.1 q.2).line + nlsL (tokB q.1 q.2).left ≤ q.2 + nlsL q.1 := by
    intro q
    obtain ⟨m, k⟩ := q
    cases m with
    | nil => exact Nat.le_refl _
    | cons c r =>
      cases ht : tokL (c :: r) with
      | none => rw [tokB_bad ht]; exact Nat.le_refl _
      | some p =>
        obtain ⟨a, b⟩ := p
        cases hl : longL a b with
        | true => rw [tokB_long ht hl]; exact Nat.le_refl _
        | false =>
          rw [tokB_tok ht hl]
          dsimp only
          have : nlsL (c :: r) = nlsL ((c :: r).take b) + nlsL ((c :: r).drop b) := by rw [← nlsL_app, List.take_append_drop]
          omega
  have h1 := hb (skp n l)
  have h2 : nlsL l = nlsL (l.take (gapL false l)) + nlsL (l.drop (gapL false l)) := by rw [← nlsL_app, List.take_append_drop]
  have h3 : (skp n l).2 + nlsL (skp n l).1 = n + nlsL (l.take (gapL false l)) + nlsL (l.drop (gapL false l)) := rfl
  unfold tokN
  omega
/-- What reading all answers: the error, and the line. -/
def allE (X : Lx) : Nat := if 800 < X.ts.length then 6 else if X.err = 4 then 0 else X.err
def allN (X : Lx) : Nat := match X.ts[800]? with
  | some t => t.line
  | none => X.line
theorem allE_end {X : Lx} (h : X.ts.length ≤ 800) (h4 : X.err = 4) : allE X = 0 := by unfold allE; rw [if_neg (by omega), if_pos h4]
theorem allE_err {X : Lx} (h : X.ts.length ≤ 800) (h4 : X.err ≠ 4) : allE X = X.err := by unfold allE; rw [if_neg (by omega), if_neg h4]
theorem allE_full {X : Lx} (h : 800 < X.ts.length) : allE X = 6 := by unfold allE; rw [if_pos h]
theorem allN_line {X : Lx} (h : X.ts.length ≤ 800) : allN X = X.line := by unfold allN; rw [List.getElem?_eq_none h]
theorem allN_full {X : Lx} {t : Tk} (h : X.ts[800]? = some t) : allN X = t.line := by unfold allN; rw [h]
theorem lexL_err (n : Nat) (l : By) : (lexL n l).err = 2 ∨ (lexL n l).err = 3 ∨ (lexL n l).err = 4 := by
  obtain ⟨m, hm⟩ : ∃ m, l.length ≤ m := ⟨_, Nat.le_refl _⟩
  induction m generalizing n l with
  | zero =>
    obtain rfl : l = [] := List.eq_nil_of_length_eq_zero (by omega)
    rw [lexL_end (l := []) rfl]
    exact .inr (.inr rfl)
  | succ m ih =>
    by_cases he : l.drop (gapL false l) = []
    · rw [lexL_end he]; exact .inr (.inr rfl)
    · cases hk : tokL (l.drop (gapL false l)) with
      | none => rw [lexL_bad he hk]; exact .inr (.inl rfl)
      | some p =>
        obtain ⟨k, q⟩ := p
        cases hl : longL k q with
        | true => rw [lexL_long hk hl]; exact .inl rfl
        | false =>
          have := tok_rest hk
          rw [lexL_tok hk hl]
          exact ih _ _ (by omega)
end Go.Proofs.Ytammomjnigalbaa
