/-
  All tokens of a text, plainly: of two texts, of texts of tokens, and their lines. Plain theorems; no condition.
-/
import Derived.Test.YtammomjnigalbaaLPure
set_option linter.unusedSimpArgs false
set_option linter.unusedVariables false
set_option maxRecDepth 100000
namespace Go.Proofs.Ytammomjnigalbaa
open Go.RowKit

theorem nlsL_app (a b : By) : nlsL (a ++ b) = nlsL a + nlsL b := List.countP_append
theorem nlsL_none {l : By} (h : ∀ c ∈ l, ¬ c.toNat = 10) : nlsL l = 0 := by
  unfold nlsL
  rw [List.countP_eq_zero]
  intro c hc
  simpa using h c hc
theorem tok_rest {l : By} {k n : Nat} (h : tokL (l.drop (gapL false l)) = some (k, n)) : ((l.drop (gapL false l)).drop n).length < l.length := by
  have := tokL_len h
  simp only [List.length_drop] at this ⊢
  omega
theorem lexF_succ (f line : Nat) (l : By) : lexF (f + 1) line l = if (l.drop (gapL false l)) = [] then ⟨[], line + nlsL (l.take (gapL false l)), 4⟩ else
      match tokL (l.drop (gapL false l)) with
      | none => ⟨[], line + nlsL (l.take (gapL false l)), 3⟩
      | some (k, n) => if longL k n then ⟨[], line + nlsL (l.take (gapL false l)), 2⟩ else
          ⟨⟨k, (l.drop (gapL false l)).take n, line + nlsL (l.take (gapL false l))⟩ :: (lexF f (line + nlsL (l.take (gapL false l))) ((l.drop (gapL false l)).drop n)).ts,
            (lexF f (line + nlsL (l.take (gapL false l))) ((l.drop (gapL false l)).drop n)).line, (lexF f (line + nlsL (l.take (gapL false l))) ((l.drop (gapL false l)).drop n)).err⟩ := rfl
theorem lexF_more : ∀ (f g line : Nat) (l : By), l.length < f → l.length < g → lexF f line l = lexF g line l := by
  intro f
  induction f with
  | zero => intro g line l h; omega
  | succ f ih =>
    intro g line l h1 h2
    obtain ⟨g, rfl⟩ : ∃ x, g = x + 1 := ⟨g - 1, by omega⟩
    unfold lexF
    split
    · rfl
    · split
      · rfl
      · rename_i k n hk
        split
        · rfl
        · have := tok_rest hk
          rw [ih g _ ((l.drop (gapL false l)).drop n) (by omega) (by omega)]
theorem drop_nil_len {l : By} {k : Nat} (hk : k ≤ l.length) (h : l.drop k = []) : k = l.length := by
  have := congrArg List.length h
  rw [List.length_drop] at this
  simp at this
  omega
theorem lexL_end {l : By} (h : l.drop (gapL false l) = []) (line : Nat) : lexL line l = ⟨[], line + nlsL l, 4⟩ := by
  unfold lexL lexF
  rw [if_pos h, drop_nil_len (gapL_le l false) h, List.take_length]
theorem lexL_bad {l : By} (h : l.drop (gapL false l) ≠ []) (ht : tokL (l.drop (gapL false l)) = none) (line : Nat) : lexL line l = ⟨[], line + nlsL (l.take (gapL false l)), 3⟩ := by
  unfold lexL lexF
  rw [if_neg h, ht]
theorem lexL_long {l : By} {k n : Nat} (ht : tokL (l.drop (gapL false l)) = some (k, n)) (hl : longL k n = true) (line : Nat) : lexL line l = ⟨[], line + nlsL (l.take (gapL false l)), 2⟩ := by
  unfold lexL lexF
  rw [if_neg (fun he => by rw [he] at ht; cases ht), ht]
  dsimp only
  rw [if_pos hl]
theorem lexL_tok {l : By} {k n : Nat} (ht : tokL (l.drop (gapL false l)) = some (k, n)) (hl : longL k n = false) (line : Nat) :
    lexL line l = ⟨⟨k, (l.drop (gapL false l)).take n, line + nlsL (l.take (gapL false l))⟩ :: (lexL (line + nlsL (l.take (gapL false l))) ((l.drop (gapL false l)).drop n)).ts,
      (lexL (line + nlsL (l.take (gapL false l))) ((l.drop (gapL false l)).drop n)).line, (lexL (line + nlsL (l.take (gapL false l))) ((l.drop (gapL false l)).drop n)).err⟩ := by
  have hr := tok_rest ht
  have hm := lexF_more l.length (((l.drop (gapL false l)).drop n).length + 1) (line + nlsL (l.take (gapL false l))) ((l.drop (gapL false l)).drop n) hr (by omega)
  unfold lexL
  rw [lexF_succ, if_neg (fun he => by rw [he] at ht; cases ht), ht]
  dsimp only
  rw [hl, if_neg Bool.false_ne_true, hm]
/-- What is told depends on what stands behind the gap, and on the line there. -/
theorem lexL_same {l m : By} {x y : Nat} (h : l.drop (gapL false l) = m.drop (gapL false m)) (hn : x + nlsL (l.take (gapL false l)) = y + nlsL (m.take (gapL false m))) : lexL x l = lexL y m := by
  by_cases he : m.drop (gapL false m) = []
  · have e1 := drop_nil_len (gapL_le m false) he
    have e2 := drop_nil_len (gapL_le l false) (h.trans he)
    rw [e1, e2, List.take_length, List.take_length] at hn
    rw [lexL_end he, lexL_end (h.trans he), hn]
  · cases ht : tokL (m.drop (gapL false m)) with
    | none => rw [lexL_bad he ht, lexL_bad (by rw [h]; exact he) (by rw [h]; exact ht), hn]
    | some p =>
      obtain ⟨k, n⟩ := p
      cases hl : longL k n with
      | true => rw [lexL_long ht hl, lexL_long (by rw [h]; exact ht) hl, hn]
      | false => rw [lexL_tok ht hl, lexL_tok (by rw [h]; exact ht) hl, hn, h]
theorem lexL_nl {a : By} (he : a.drop (gapL false a) = []) (b : By) (line : Nat) : lexL line (a ++ 10 :: b) = lexL (line + nlsL a + 1) b := by
  have hg := gapL_nl a b false (drop_nil_len (gapL_le a false) he)
  have hd : (a ++ 10 :: b).drop (a.length + (1 + gapL false b)) = b.drop (gapL false b) := by
    rw [List.drop_length_add_append, Nat.add_comm 1, List.drop_succ_cons]
  have ht : (a ++ 10 :: b).take (a.length + (1 + gapL false b)) = a ++ 10 :: b.take (gapL false b) := by
    rw [List.take_length_add_append, Nat.add_comm 1, List.take_succ_cons]
  exact lexL_same (by rw [hg, hd]) (by rw [hg, ht, nlsL_app]; simp [nlsL, List.countP_cons]; omega)
theorem lexL_join : ∀ (m : Nat) (a : By), a.length ≤ m → ∀ (line : Nat) (b : By), lexL line (a ++ 10 :: b) = if (lexL line a).err = 4 then ⟨(lexL line a).ts ++ (lexL ((lexL line a).line + 1) b).ts, (lexL ((lexL line a).line + 1) b).line, (lexL ((lexL line a).line + 1) b).err⟩ else lexL line a := by
  intro m
  induction m with
  | zero =>
    intro a ha line b
    obtain rfl : a = [] := List.eq_nil_of_length_eq_zero (by omega)
    rw [lexL_end (l := []) rfl]
    dsimp only
    rw [if_pos rfl]
    exact lexL_nl rfl b line
  | succ m ih =>
    intro a ha line b
    by_cases he : a.drop (gapL false a) = []
    · have e1 := drop_nil_len (gapL_le a false) he
      rw [lexL_end he]
      dsimp only
      rw [if_pos rfl]
      exact lexL_nl he b line
    · have hlt : gapL false a < a.length := by
        rcases Nat.lt_or_ge (gapL false a) a.length with h | h
        · exact h
        · exact absurd (List.drop_eq_nil_of_le h) he
      have hg := gapL_app a (10 :: b) false hlt
      have hd : (a ++ 10 :: b).drop (gapL false a) = a.drop (gapL false a) ++ 10 :: b := List.drop_append_of_le_length (Nat.le_of_lt hlt)
      have htk : (a ++ 10 :: b).take (gapL false a) = a.take (gapL false a) := List.take_append_of_le_length (Nat.le_of_lt hlt)
      have hta := tokL_app (a.drop (gapL false a)) (10 :: b) he nl10
      cases ht : tokL (a.drop (gapL false a)) with
      | none =>
        rw [lexL_bad he ht]
        dsimp only
        rw [if_neg (by decide), lexL_bad (l := a ++ 10 :: b) (by rw [hg, hd]; simp) (by rw [hg, hd, hta, ht]), hg, htk]
      | some p =>
        obtain ⟨k, n⟩ := p
        cases hl : longL k n with
        | true =>
          rw [lexL_long ht hl]
          dsimp only
          rw [if_neg (by decide), lexL_long (l := a ++ 10 :: b) (by rw [hg, hd, hta, ht]) hl, hg, htk]
        | false =>
          have hn := (tokL_len ht).2
          have hr := tok_rest ht
          rw [lexL_tok ht hl, lexL_tok (l := a ++ 10 :: b) (by rw [hg, hd, hta, ht]) hl, hg, htk, hd, List.take_append_of_le_length hn, List.drop_append_of_le_length hn,
            ih ((a.drop (gapL false a)).drop n) (by omega) _ b]
          dsimp only
          split
          · rfl
          · rfl

/-! Texts of tokens. -/
def gapOK (g : By) : Prop := ∀ x, gapL false (g ++ x) = g.length + gapL false x
inductive Laid : List (Nat × By) → By → Prop
  | nil (s : By) (h : gapL false s = s.length) : Laid [] s
  | cons (g s : By) (k : Nat) (T : By) (r : List (Nat × By)) (hg : gapOK g) (ht : tokL T = some (k, T.length)) (hl : longL k T.length = false) (hs : sepL s = true) (h : Laid r s) : Laid ((k, T) :: r) (g ++ (T ++ s))
theorem tok_head {l : By} {k n : Nat} (h : tokL l = some (k, n)) (x : By) : gapL false (l ++ x) = 0 := by
  match l, h with
  | c :: r, h =>
    have hc : lBlank c = false := by
      cases hb : lBlank c with
      | false => rfl
      | true =>
        have hw := blank_word c hb
        rw [tokL_cons, hw.2.2.2.2.1, hw.2.2.2.1, if_neg (by decide), if_neg (by decide), if_neg hw.2.2.2.2.2.2.2.2, hw.2.2.2.2.2.1] at h
        simp at h
    rw [List.cons_append]
    unfold gapL
    rw [hc]
    rfl
theorem laid_lex {ts : List (Nat × By)} {l : By} (h : Laid ts l) : ∀ line, (lexL line l).err = 4 ∧ (lexL line l).ts.map (fun t => (t.kind, t.text)) = ts := by
  induction h with
  | nil s hs =>
    intro line
    rw [lexL_end (by rw [hs, List.drop_length])]
    exact ⟨rfl, rfl⟩
  | cons g s k T r hg ht hl hs _ ih =>
    intro line
    have hne : T ≠ [] := fun he => by rw [he] at ht; cases ht
    have e1 : gapL false (g ++ (T ++ s)) = g.length := by rw [hg, tok_head ht s, Nat.add_zero]
    have e2 : (g ++ (T ++ s)).drop (gapL false (g ++ (T ++ s))) = T ++ s := by rw [e1, List.drop_left]
    have e3 : tokL ((g ++ (T ++ s)).drop (gapL false (g ++ (T ++ s)))) = some (k, T.length) := by rw [e2, tokL_app T s hne hs, ht]
    rw [lexL_tok e3 hl, e2, List.take_left, List.drop_left]
    have := ih (line + nlsL ((g ++ (T ++ s)).take (gapL false (g ++ (T ++ s)))))
    exact ⟨this.1, by rw [List.map_cons, this.2]⟩
theorem lex_good : ∀ (m : Nat) (l : By), l.length ≤ m → ∀ line, ∀ t ∈ (lexL line l).ts, tokL t.text = some (t.kind, t.text.length) ∧ longL t.kind t.text.length = false := by
  intro m
  induction m with
  | zero =>
    intro l hl line t ht
    obtain rfl : l = [] := List.eq_nil_of_length_eq_zero (by omega)
    rw [lexL_end (l := []) rfl] at ht
    cases ht
  | succ m ih =>
    intro l hlm line t ht
    by_cases he : l.drop (gapL false l) = []
    · rw [lexL_end he] at ht
      cases ht
    · cases hk : tokL (l.drop (gapL false l)) with
      | none =>
        rw [lexL_bad he hk] at ht
        cases ht
      | some p =>
        obtain ⟨k, n⟩ := p
        cases hl : longL k n with
        | true =>
          rw [lexL_long hk hl] at ht
          cases ht
        | false =>
          rw [lexL_tok hk hl] at ht
          have hn := (tokL_len hk).2
          have hr := tok_rest hk
          rcases List.mem_cons.1 ht with rfl | ht
          · have hlen : ((l.drop (gapL false l)).take n).length = n := by rw [List.length_take]; omega
            dsimp only
            rw [hlen]
            exact ⟨tokL_take hk, hl⟩
          · exact ih _ (by omega) _ t ht
/-- The text of tokens; 'sp': whether a blank comes first. -/
def textL : Bool → List By → By
  | _, [] => []
  | sp, T :: r => (if sp then [32] else []) ++ (T ++ (if T = [59] then 10 :: textL false r else textL true r))
theorem textL_true {r : List By} (h : r ≠ []) : textL true r = [32] ++ textL false r := by
  match r, h with
  | T :: q, _ => rfl
theorem gapOK_nil : gapOK [] := fun x => by simp
theorem gapOK_sp : gapOK [32] := fun x => by
  show gapL false (32 :: x) = 1 + gapL false x
  unfold gapL
  rw [if_pos (by decide +kernel)]
  have : (if (32 : UInt8).toNat = 10 then false else false || decide ((32 : UInt8).toNat = 35)) = false := by decide +kernel
  rw [this]
  cases x <;> simp [gapL] <;> omega
theorem gapOK_nl : gapOK [10] := fun x => by
  show gapL false (10 :: x) = 1 + gapL false x
  unfold gapL
  rw [if_pos (by decide +kernel)]
  have : (if (10 : UInt8).toNat = 10 then false else false || decide ((10 : UInt8).toNat = 35)) = false := by decide +kernel
  rw [this]
  cases x <;> simp [gapL] <;> omega
def GoodT (p : Nat × By) : Prop := tokL p.2 = some (p.1, p.2.length) ∧ longL p.1 p.2.length = false
theorem textL_laid : ∀ (ts : List (Nat × By)) (g : By), gapOK g → gapL false g = g.length → (∀ p ∈ ts, GoodT p) → Laid ts (g ++ textL false (ts.map (·.2))) := by
  intro ts
  induction ts with
  | nil => intro g _ hz _; rw [List.map_nil]; exact Laid.nil _ (by simpa [textL] using hz)
  | cons p r ih =>
    intro g hg _ hgood
    obtain ⟨k, T⟩ := p
    have hp := hgood (k, T) (by simp)
    have hr := fun q hq => hgood q (List.mem_cons_of_mem _ hq)
    rw [List.map_cons]
    show Laid ((k, T) :: r) (g ++ ([] ++ (T ++ (if T = [59] then 10 :: textL false (r.map (·.2)) else textL true (r.map (·.2))))))
    rw [List.nil_append]
    by_cases hs : T = [59]
    · rw [if_pos hs]
      exact Laid.cons g _ k T r hg hp.1 hp.2 nl10 (ih [10] gapOK_nl (by decide +kernel) hr)
    · rw [if_neg hs]
      by_cases hn : r = []
      · subst hn
        exact Laid.cons g _ k T [] hg hp.1 hp.2 rfl (Laid.nil _ rfl)
      · rw [textL_true (by simpa using hn)]
        exact Laid.cons g _ k T r hg hp.1 hp.2 (show lBlank 32 = true by decide +kernel) (ih [32] gapOK_sp (by decide +kernel) hr)
/-- Tokens with a gap ahead of each, and behind them all. -/
def wideL (g : By) (ts : List By) : By := ts.flatMap (fun T => g ++ T)
theorem wideL_laid (g : By) (hne : g ≠ []) (hg : gapOK g) (hz : gapL false g = g.length) (hs : sepL g = true) : ∀ (ts : List (Nat × By)), (∀ p ∈ ts, GoodT p) → Laid ts (wideL g (ts.map (·.2)) ++ g) := by
  intro ts
  induction ts with
  | nil => intro _; exact Laid.nil _ (by simpa [wideL] using hz)
  | cons p r ih =>
    intro hgood
    obtain ⟨k, T⟩ := p
    have hp := hgood (k, T) (by simp)
    have h2 := ih (fun q hq => hgood q (List.mem_cons_of_mem _ hq))
    have e : wideL g (((k, T) :: r).map (·.2)) ++ g = g ++ (T ++ (wideL g (r.map (·.2)) ++ g)) := by
      unfold wideL
      simp [List.append_assoc]
    rw [e]
    refine Laid.cons g _ k T r hg hp.1 hp.2 ?_ h2
    match g, hne, hs, r with
    | c :: q, _, hs, [] => exact hs
    | c :: q, _, hs, x :: r => exact hs

/-! Lines. -/
theorem lex_lines : ∀ (m : Nat) (l : By), l.length ≤ m → ∀ line, (line ≤ (lexL line l).line ∧ (lexL line l).line ≤ line + nlsL l) ∧ ∀ t ∈ (lexL line l).ts, line ≤ t.line ∧ t.line ≤ line + nlsL l := by
  intro m
  induction m with
  | zero =>
    intro l hl line
    obtain rfl : l = [] := List.eq_nil_of_length_eq_zero (by omega)
    rw [lexL_end (l := []) rfl]
    exact ⟨⟨by dsimp only; omega, by dsimp only; omega⟩, fun t ht => by cases ht⟩
  | succ m ih =>
    intro l hlm line
    have hsp : nlsL l = nlsL (l.take (gapL false l)) + nlsL (l.drop (gapL false l)) := by rw [← nlsL_app, List.take_append_drop]
    by_cases he : l.drop (gapL false l) = []
    · rw [lexL_end he]
      exact ⟨⟨by dsimp only; omega, by dsimp only; omega⟩, fun t ht => by cases ht⟩
    · cases hk : tokL (l.drop (gapL false l)) with
      | none =>
        rw [lexL_bad he hk]
        exact ⟨⟨by dsimp only; omega, by dsimp only; omega⟩, fun t ht => by cases ht⟩
      | some p =>
        obtain ⟨k, n⟩ := p
        cases hl : longL k n with
        | true =>
          rw [lexL_long hk hl]
          exact ⟨⟨by dsimp only; omega, by dsimp only; omega⟩, fun t ht => by cases ht⟩
        | false =>
          have hr := tok_rest hk
          have h2 := ih ((l.drop (gapL false l)).drop n) (by omega) (line + nlsL (l.take (gapL false l)))
          have hs2 : nlsL (l.drop (gapL false l)) = nlsL ((l.drop (gapL false l)).take n) + nlsL ((l.drop (gapL false l)).drop n) := by rw [← nlsL_app, List.take_append_drop]
          rw [lexL_tok hk hl]
          refine ⟨⟨by dsimp only; omega, by dsimp only; omega⟩, fun t ht => ?_⟩
          rcases List.mem_cons.1 ht with rfl | ht
          · exact ⟨by dsimp only; omega, by dsimp only; omega⟩
          · have := h2.2 t ht
            exact ⟨by omega, by omega⟩
end Go.Proofs.Ytammomjnigalbaa
