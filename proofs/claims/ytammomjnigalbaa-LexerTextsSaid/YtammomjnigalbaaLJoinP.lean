/-
  Two texts with a line's end between them, plainly: what Tokens answers of them. Plain theorems; no condition.
-/
import Derived.Test.YtammomjnigalbaaLOf
set_option linter.unusedSimpArgs false
set_option linter.unusedVariables false
set_option maxRecDepth 100000
namespace Go.Proofs.Ytammomjnigalbaa
open Go.RowKit

/-- The lines aside, the line at the beginning means nothing. -/
theorem lexL_shift : ∀ (m : Nat) (l : By), l.length ≤ m → ∀ a b, (lexL a l).err = (lexL b l).err ∧ (lexL a l).ts.map ktL = (lexL b l).ts.map ktL := by
  intro m
  induction m with
  | zero =>
    intro l hl a b
    obtain rfl : l = [] := List.eq_nil_of_length_eq_zero (by omega)
    rw [lexL_end (l := []) rfl, lexL_end (l := []) rfl]
    exact ⟨rfl, rfl⟩
  | succ m ih =>
    intro l hl a b
    by_cases he : l.drop (gapL false l) = []
    · rw [lexL_end he, lexL_end he]; exact ⟨rfl, rfl⟩
    · cases hk : tokL (l.drop (gapL false l)) with
      | none => rw [lexL_bad he hk, lexL_bad he hk]; exact ⟨rfl, rfl⟩
      | some p =>
        obtain ⟨k, q⟩ := p
        cases hlg : longL k q with
        | true => rw [lexL_long hk hlg, lexL_long hk hlg]; exact ⟨rfl, rfl⟩
        | false =>
          have := tok_rest hk
          have h2 := ih ((l.drop (gapL false l)).drop q) (by omega) (a + nlsL (l.take (gapL false l))) (b + nlsL (l.take (gapL false l)))
          rw [lexL_tok hk hlg, lexL_tok hk hlg]
          refine ⟨h2.1, ?_⟩
          rw [List.map_cons, List.map_cons]
          exact congr (congrArg List.cons rfl) h2.2
theorem join_parts (A B : By) : (lexL 1 (A ++ 10 :: B)).err = (if (lexL 1 A).err = 4 then (lexL 1 B).err else (lexL 1 A).err) ∧ (lexL 1 (A ++ 10 :: B)).ts.map ktL = (lexL 1 A).ts.map ktL ++ (if (lexL 1 A).err = 4 then (lexL 1 B).ts.map ktL else []) := by
  have h := lexL_join A.length A (Nat.le_refl _) 1 B
  have h2 := lexL_shift B.length B (Nat.le_refl _) ((lexL 1 A).line + 1) 1
  rw [h]
  by_cases h4 : (lexL 1 A).err = 4
  · rw [if_pos h4, if_pos h4, if_pos h4, List.map_append, h2.1, h2.2]
    exact ⟨rfl, rfl⟩
  · rw [if_neg h4, if_neg h4, if_neg h4, List.append_nil]
    exact ⟨rfl, rfl⟩
theorem allE_zero {X : Lx} (h : allE X = 0) (he : X.err = 2 ∨ X.err = 3 ∨ X.err = 4) : X.ts.length ≤ 800 ∧ X.err = 4 := by
  unfold allE at h
  split at h
  · omega
  · split at h
    · exact ⟨by omega, by assumption⟩
    · omega
theorem toks_small {l : By} (h : l.length ≤ 8192) : toksE l = allE (lexL 1 l) ∧ toksN l = allN (lexL 1 l) := toksE_is (by omega)
theorem join_bad {A B : By} (hA : A.length ≤ 2000) (hB : B.length ≤ 2000) (h : ¬ (toksE A = 0 ∧ toksE B = 0 ∧ (lexL 1 A).ts.length + (lexL 1 B).ts.length ≤ 800)) : toksE (A ++ 10 :: B) ≠ 0 := by
  intro h0
  rw [(toks_small (l := A ++ 10 :: B) (by simp; omega)).1] at h0
  have hz := allE_zero h0 (lexL_err _ _)
  obtain ⟨j1, j2⟩ := join_parts A B
  have hl := congrArg List.length j2
  rw [List.length_append, List.length_map, List.length_map] at hl
  rw [hz.2] at j1
  by_cases h4 : (lexL 1 A).err = 4
  · rw [if_pos h4] at j1
    rw [if_pos h4, List.length_map] at hl
    have e1 : toksE A = 0 := by rw [(toks_small (l := A) (by omega)).1, allE_end (by omega) h4]
    have e2 : toksE B = 0 := by rw [(toks_small (l := B) (by omega)).1, allE_end (by omega) j1.symm]
    exact h ⟨e1, e2, by omega⟩
  · rw [if_neg h4] at j1
    exact h4 j1.symm
theorem join_good {A B : By} (hA : A.length ≤ 2000) (hB : B.length ≤ 2000) (h1 : toksE A = 0) (h2 : toksE B = 0) (h3 : (lexL 1 A).ts.length + (lexL 1 B).ts.length ≤ 800) : toksE (A ++ 10 :: B) = 0 ∧ (lexL 1 (A ++ 10 :: B)).ts.map ktL = ((lexL 1 A).ts ++ (lexL 1 B).ts).map ktL := by
  rw [(toks_small (l := A) (by omega)).1] at h1
  rw [(toks_small (l := B) (by omega)).1] at h2
  have z1 := allE_zero h1 (lexL_err _ _)
  have z2 := allE_zero h2 (lexL_err _ _)
  obtain ⟨j1, j2⟩ := join_parts A B
  rw [if_pos z1.2] at j1 j2
  have hl := congrArg List.length j2
  rw [List.length_append, List.length_map, List.length_map, List.length_map] at hl
  rw [(toks_small (l := A ++ 10 :: B) (by simp; omega)).1]
  exact ⟨allE_end (by omega) (j1.trans z2.2), by rw [j2, List.map_append]⟩
theorem TIn.flat {w : World} {A : Option Addr} {n c : Nat} {ts : List Tk} (h : TIn w A n c ts) (hp : 0 < n) : ∃ g off, A = some ⟨g, off, Option.none⟩ ∧ ∀ (j : Nat) u, (rowK ts)[j]? = some u → w.cell? ⟨g, off + j, Option.none⟩ = some u := by
  obtain ⟨g, o, hA, _, hc⟩ := h.cells hp
  refine ⟨g, o, hA, fun j u hu => ?_⟩
  have hj := (List.getElem?_eq_some_iff.1 hu).1
  rw [rowK_len] at hj
  have hi : j / 3 < ts.length := by omega
  have hx := List.getElem?_eq_getElem hi
  have hr : j % 3 < (tkC ts[j / 3]).length := by simp [tkC]; omega
  have hy := List.getElem?_eq_getElem hr
  have h1 := rowK_get hx hy
  rw [show j / 3 * 3 + j % 3 = j by omega, hu] at h1
  have h2 := hc _ _ hx _ _ hy
  rw [show o + j / 3 * 3 + j % 3 = o + j by omega] at h2
  rw [h2]
  exact h1.symm
theorem rowK_app (a b : List Tk) : rowK (a ++ b) = rowK a ++ rowK b := by simp [rowK]
/-- An append that a guard lets through. -/
theorem lapp_guard {P : Program} {ops : Array Oper} {Q : Exit → Act → World → Prop} {rest : List Oper} {o : Oper} {a : Act} {w : World} {s x : Operand} {t e base : Nat} {z : Value} {size bytes : Nat} (hw : Region.wanted o (yielded ops a.tmps) = true) (ho : o.op = .call { callee := .builtin .append, args := #[s, x], argTypes := #[t, t] }) (ht : P.underlying t = some (.slice e)) (hi : (P.info? e).map (fun i => (i.zero, i.size, i.bytes)) = some (some z, size, bytes)) (hzs : z.cells.size = size) (hsz : 0 < size)
    {v : Value} {n : Nat} {xs : List Value} {A : Option Addr} {m c : Nat} (news : List Value) (hs : a.eval s = v) (hown : w.ownsRow base e size v n xs) (hx : a.eval x = .slice A m c) (hl : news.length = m * size) (hnews : 0 < m → ∃ g off, A = some ⟨g, off, none⟩ ∧ ∀ (j : Nat) u, news[j]? = some u → w.cell? ⟨g, off + j, none⟩ = some u) (h1 : ∀ u ∈ news, u.oneCell' = true) (hmx : n + m ≤ 1000000) (hb : bytes ≤ 1000) (hbase : base ≤ w.heap.size)
    (h : ∀ v' w', w'.ownsRow base e size v' (n + m) (xs ++ news) → Only v.ownBlock.toList w w' → (v'.ownBlock = v.ownBlock ∨ v'.ownBlock = some w.heap.size) → wpList P ops Q rest (a.put o.dst v') w') : wpList P ops Q (o :: rest) a w := by
  obtain ⟨v', w', hr, k1, k2, k3⟩ := xe_app_any (P := P) (ρ := a.eval) (w := w) ho ht hi hzs hsz hs hown hx news hl hnews h1 hmx hb hbase
  refine wpList_step fun K hK => ?_
  rw [if_pos hw]
  unfold Oper.wp
  rw [hr]
  exact hK _ _ (h v' w' k1 k2 k3)
end Go.Proofs.Ytammomjnigalbaa
