/-
  Where a text's tokens stand, and their lines; plainly. Plain theorems; no condition.
-/
import Derived.Test.YtammomjnigalbaaLJoinsLaw
set_option linter.unusedSimpArgs false
set_option linter.unusedVariables false
set_option maxRecDepth 100000
namespace Go.Proofs.Ytammomjnigalbaa
open Go.RowKit

theorem lex_step {n : Nat} {l : By} {x : Tk} {rest : List Tk} (h : (lexL n l).ts = x :: rest) : ∃ gp m, gp + m ≤ l.length ∧ 0 < m ∧ x = ⟨x.kind, (l.drop gp).take m, n + nlsL (l.take (gp + m))⟩ ∧ tokN 1 l = ⟨⟨x.kind, x.text, 1 + nlsL (l.take (gp + m))⟩, 0, l.drop (gp + m), 1 + nlsL (l.take (gp + m))⟩ ∧
    rest = (lexL (n + nlsL (l.take (gp + m))) (l.drop (gp + m))).ts ∧ (lexL n l).err = (lexL (n + nlsL (l.take (gp + m))) (l.drop (gp + m))).err := by
  cases hd : l.drop (gapL false l) with
  | nil => rw [lexL_end hd] at h; cases h
  | cons c r =>
    cases ht : tokL (c :: r) with
    | none => rw [lexL_bad (by rw [hd]; simp) (by rw [hd]; exact ht)] at h; cases h
    | some p =>
      obtain ⟨k, m⟩ := p
      cases hl : longL k m with
      | true => rw [lexL_long (by rw [hd]; exact ht) hl] at h; cases h
      | false =>
        have hm := tokL_len ht
        have hlen := congrArg List.length hd
        rw [List.length_drop] at hlen
        have hnl : nlsL ((l.drop (gapL false l)).take m) = 0 := nlsL_none (by rw [hd]; exact tokL_bytes ht)
        have hn : nlsL (l.take (gapL false l + m)) = nlsL (l.take (gapL false l)) := by rw [List.take_add, nlsL_app, hnl, Nat.add_zero]
        have hdd : (l.drop (gapL false l)).drop m = l.drop (gapL false l + m) := by rw [List.drop_drop]
        have hx := lexL_tok (l := l) (by rw [hd]; exact ht) hl n
        rw [hdd, ← hn] at hx
        rw [hx] at h ⊢
        dsimp only at h
        injection h with h1 h2
        refine ⟨gapL false l, m, by have := gapL_le l false; omega, hm.1, by rw [← h1], ?_, h2.symm, rfl⟩
        have e0 : tokN 1 l = tokB (c :: r) (skp 1 l).2 := by unfold tokN; rw [skp_drop, hd]
        have e1 : (skp 1 l).2 = 1 + nlsL (l.take (gapL false l + m)) := by rw [hn]; rfl
        rw [e0, tokB_tok ht hl, e1, ← h1, ← hdd, hd]
theorem lex_done {n : Nat} {l : By} (h : (lexL n l).ts = []) (h4 : (lexL n l).err = 4) : (tokN 1 l).err = 4 := by
  have hs := lexL_shift l.length l (Nat.le_refl _) n 1
  rw [h4, h] at hs
  rcases lexL_tokN 1 l with ⟨_, hx, _⟩ | ⟨_, hx, _⟩
  · rw [hx] at hs
    have := hs.2
    simp at this
  · rw [hx] at hs
    exact hs.1.symm
theorem lines_bad {l : By} (hl : l.length ≤ 8192) (h : toksE l ≠ 0) : 1 ≤ toksN l ∧ toksN l ≤ 1 + nlsL l := by
  have h1 := lex_lines l.length l (Nat.le_refl _) 1
  rw [(toks_small hl).2]
  unfold allN
  split
  · rename_i t ht
    have := h1.2 t (List.mem_of_getElem? ht)
    omega
  · have := h1.1
    omega
/-- Where reading all stands, behind so many tokens. -/
def LAt (l : By) (i at_ : Nat) : Prop := at_ ≤ l.length ∧ (lexL 1 l).ts.drop i = (lexL (1 + nlsL (l.take at_)) (l.drop at_)).ts ∧ (lexL (1 + nlsL (l.take at_)) (l.drop at_)).err = 4
theorem LAt.start {l : By} (h : (lexL 1 l).err = 4) : LAt l 0 0 := by
  refine ⟨Nat.zero_le _, ?_, ?_⟩
  · rw [List.drop_zero, List.drop_zero, List.take_zero]; rfl
  · rw [List.drop_zero, List.take_zero]; exact h
theorem LAt.step {l : By} {i a : Nat} {x : Tk} (h : LAt l i a) (hx : (lexL 1 l).ts[i]? = some x) : ∃ gp m, a + gp + m ≤ l.length ∧ 0 < m ∧ x.text = (l.drop (a + gp)).take m ∧ x.text.length = m ∧ x.line = 1 + nlsL (l.take (a + gp + m)) ∧
    (∃ ln, tokN 1 (l.drop a) = ⟨⟨x.kind, x.text, ln⟩, 0, l.drop (a + gp + m), ln⟩) ∧ LAt l (i + 1) (a + gp + m) := by
  obtain ⟨h1, h2, h3⟩ := h
  obtain ⟨hi, he⟩ := List.getElem?_eq_some_iff.1 hx
  have hd : (lexL 1 l).ts.drop i = x :: (lexL 1 l).ts.drop (i + 1) := by rw [List.drop_eq_getElem_cons hi, he]
  rw [hd] at h2
  obtain ⟨gp, m, k1, k2, k3, k4, k5, k6⟩ := lex_step h2.symm
  rw [List.length_drop] at k1
  have e1 : nlsL (l.take a) + nlsL ((l.drop a).take (gp + m)) = nlsL (l.take (a + gp + m)) := by
    have h5 : l.take (a + (gp + m)) = l.take a ++ (l.drop a).take (gp + m) := List.take_add
    rw [Nat.add_assoc, h5, nlsL_app]
  have e2 : (l.drop a).drop (gp + m) = l.drop (a + gp + m) := by rw [List.drop_drop, Nat.add_assoc]
  have e3 : (l.drop a).drop gp = l.drop (a + gp) := by rw [List.drop_drop]
  rw [show 1 + nlsL (l.take a) + nlsL ((l.drop a).take (gp + m)) = 1 + nlsL (l.take (a + gp + m)) by omega] at k3 k5 k6
  rw [e2] at k4 k5 k6
  rw [e3] at k3
  have ht : x.text = (l.drop (a + gp)).take m := congrArg Tk.text k3
  refine ⟨gp, m, by omega, k2, ht, ?_, congrArg Tk.line k3, ⟨_, k4⟩, by omega, k5, by rw [← k6]; exact h3⟩
  rw [ht, List.length_take, List.length_drop]
  omega
theorem LAt.done {l : By} {a : Nat} (h : LAt l (lexL 1 l).ts.length a) : (tokN 1 (l.drop a)).err = 4 := by
  obtain ⟨h1, h2, h3⟩ := h
  rw [List.drop_length] at h2
  exact lex_done h2.symm h3
theorem nls_next {l : By} {k : Nat} {c : UInt8} (h : l[k]? = some c) : nlsL (l.take (k + 1)) = nlsL (l.take k) + if c.toNat = 10 then 1 else 0 := by
  rw [List.take_add_one, h, Option.toList_some, nlsL_app]
  congr 1
  unfold nlsL
  by_cases hc : c.toNat = 10
  · simp [hc]
  · simp [hc]
end Go.Proofs.Ytammomjnigalbaa
