/-
  The text of a text's tokens, and the same with gaps between them: what Tokens answers of them; plainly. Plain theorems; no condition.
-/
import Derived.Test.YtammomjnigalbaaLLinesLaw
set_option linter.unusedSimpArgs false
set_option linter.unusedVariables false
set_option maxRecDepth 100000
namespace Go.Proofs.Ytammomjnigalbaa
open Go.RowKit

def sumT (ts : List Tk) : Nat := (ts.map fun t => t.text.length).sum
theorem lex_sum : ∀ (m : Nat) (l : By), l.length ≤ m → ∀ n, sumT (lexL n l).ts ≤ l.length := by
  intro m
  induction m with
  | zero =>
    intro l hl n
    obtain rfl : l = [] := List.eq_nil_of_length_eq_zero (by omega)
    rw [lexL_end (l := []) rfl]
    exact Nat.zero_le _
  | succ m ih =>
    intro l hl n
    cases hx : (lexL n l).ts with
    | nil => exact Nat.zero_le _
    | cons x rest =>
      obtain ⟨gp, k, k1, k2, k3, k4, k5, k6⟩ := lex_step hx
      have h1 := ih (l.drop (gp + k)) (by rw [List.length_drop]; omega) (n + nlsL (l.take (gp + k)))
      rw [← k5, List.length_drop] at h1
      have h2 : x.text.length ≤ k := by
        have : x.text = (l.drop gp).take k := congrArg Tk.text k3
        rw [this, List.length_take]
        omega
      have : sumT (x :: rest) = x.text.length + sumT rest := by simp [sumT]
      omega
theorem textL_len : ∀ (l : List By) (sp : Bool), (textL sp l).length ≤ (l.map List.length).sum + 2 * l.length := by
  intro l
  induction l with
  | nil => intro sp; simp [textL]
  | cons T r ih =>
    intro sp
    have h1 := ih true
    have h2 := ih false
    have e : textL sp (T :: r) = (if sp then [32] else []) ++ (T ++ (if T = [59] then 10 :: textL false r else textL true r)) := rfl
    have h3 : (if T = [59] then 10 :: textL false r else textL true r).length ≤ (r.map List.length).sum + 2 * r.length + 1 := by
      split
      · simp only [List.length_cons]; omega
      · omega
    rw [e, List.length_append, List.length_append, List.map_cons, List.sum_cons, List.length_cons]
    cases sp with
    | true =>
      have : (if true = true then ([32] : By) else []).length = 1 := rfl
      omega
    | false =>
      have : (if false = true then ([32] : By) else []).length = 0 := rfl
      omega
theorem good_of {n : Nat} {l : By} : ∀ p ∈ (lexL n l).ts.map ktL, GoodT p := by
  intro p hp
  obtain ⟨t, ht, rfl⟩ := List.mem_map.1 hp
  exact lex_good l.length l (Nat.le_refl _) n t ht
theorem kt_texts (ts : List Tk) : (ts.map ktL).map (·.2) = ts.map (·.text) := by rw [List.map_map]; rfl
theorem kt_of {a b : List Tk} (h : a.map ktL = b.map ktL) : a.map (·.text) = b.map (·.text) := by rw [← kt_texts, ← kt_texts, h]
theorem kt_count {a b : List Tk} (h : a.map ktL = b.map ktL) : a.length = b.length := by simpa using congrArg List.length h
theorem tok_small {n : Nat} {l : By} : ∀ x ∈ (lexL n l).ts, x.text.length ≤ 60 := by
  intro x hx
  have h := (lex_good l.length l (Nat.le_refl _) n x hx).2
  unfold longL at h
  simp at h
  omega
/-- The text of a text's tokens has the same tokens. -/
theorem text_back {l : By} (hl : l.length ≤ 2000) (h0 : toksE l = 0) : toksE (textL false ((lexL 1 l).ts.map (·.text))) = 0 ∧ (lexL 1 (textL false ((lexL 1 l).ts.map (·.text)))).ts.map ktL = (lexL 1 l).ts.map ktL := by
  have h1 := h0
  rw [(toks_small (l := l) (by omega)).1] at h1
  have hz := allE_zero h1 (lexL_err _ _)
  have hlaid := laid_lex (textL_laid ((lexL 1 l).ts.map ktL) [] gapOK_nil rfl good_of) 1
  rw [kt_texts, List.nil_append] at hlaid
  have hc := kt_count hlaid.2
  have hs := lex_sum l.length l (Nat.le_refl _) 1
  have ht := textL_len ((lexL 1 l).ts.map (·.text)) false
  rw [List.map_map, List.length_map] at ht
  have he : ((lexL 1 l).ts.map (List.length ∘ fun x => x.text)).sum = sumT (lexL 1 l).ts := rfl
  rw [he] at ht
  rw [(toks_small (by omega)).1]
  exact ⟨allE_end (by omega) hlaid.1, hlaid.2⟩
/-- A gap's bytes, one by one; whether a note is under way behind them. -/
def gapS : Bool → By → Option Bool
  | n, [] => some n
  | n, c :: r => if n || lBlank c then gapS (if c.toNat = 10 then false else n || decide (c.toNat = 35)) r else none
theorem gapS_app : ∀ (g : By) (n m : Bool) (x : By), gapS n g = some m → gapL n (g ++ x) = g.length + gapL m x := by
  intro g
  induction g with
  | nil => intro n m x h; cases h; simp
  | cons c r ih =>
    intro n m x h
    unfold gapS at h
    split at h
    · rename_i hb
      rw [List.cons_append, gapL_cons, if_pos hb, ih _ _ x h, List.length_cons]
      omega
    · cases h
theorem gapS_ok {g : By} (h : gapS false g = some false) : gapOK g ∧ gapL false g = g.length := by
  refine ⟨fun x => gapS_app g false false x h, ?_⟩
  have := gapS_app g false false [] h
  rw [List.append_nil] at this
  rw [this]
  rfl
def gp0 : By := [32]
def gp1 : By := [10]
def gp2 : By := [32, 35, 32, 97, 108, 108, 111, 119, 32, 100, 101, 110, 121, 32, 59, 10]
def gp3 : By := [9, 32, 10, 10]
/-- What may stand between. -/
structure GapB (g : By) : Prop where
  ne : g ≠ []
  ok : gapOK g
  all : gapL false g = g.length
  sep : sepL g = true
  small : g.length ≤ 16
theorem gapB_of {g : By} (h1 : g ≠ []) (h2 : gapS false g = some false) (h3 : sepL g = true) (h4 : g.length ≤ 16) : GapB g := ⟨h1, (gapS_ok h2).1, (gapS_ok h2).2, h3, h4⟩
theorem gapB0 : GapB gp0 := gapB_of (by decide) (by decide +kernel) (by decide +kernel) (by decide)
theorem gapB1 : GapB gp1 := gapB_of (by decide) (by decide +kernel) (by decide +kernel) (by decide)
theorem gapB2 : GapB gp2 := gapB_of (by decide) (by decide +kernel) (by decide +kernel) (by decide)
theorem gapB3 : GapB gp3 := gapB_of (by decide) (by decide +kernel) (by decide +kernel) (by decide)
def wideAt (g : By) (ts : List Tk) (i : Nat) : By := wideL g ((ts.take i).map (·.text))
theorem wideAt_next {g : By} {ts : List Tk} {i : Nat} {x : Tk} (h : ts[i]? = some x) : wideAt g ts (i + 1) = wideAt g ts i ++ g ++ x.text := by
  unfold wideAt wideL
  rw [List.take_add_one, h, Option.toList_some, List.map_append, List.flatMap_append]
  simp [List.append_assoc]
theorem wideAt_all {g : By} {ts : List Tk} {n : Nat} (h : ts.length = n) : wideAt g ts n = wideL g (ts.map (·.text)) := by unfold wideAt; rw [← h, List.take_length]
theorem wide_back {l g : By} (hg : GapB g) (h0 : toksE l = 0) (hl : l.length ≤ 2000) (hw : (wideL g ((lexL 1 l).ts.map (·.text))).length ≤ 8000) : toksE (wideL g ((lexL 1 l).ts.map (·.text)) ++ g) = 0 ∧ (lexL 1 (wideL g ((lexL 1 l).ts.map (·.text)) ++ g)).ts.map ktL = (lexL 1 l).ts.map ktL := by
  have h1 := h0
  rw [(toks_small (l := l) (by omega)).1] at h1
  have hz := allE_zero h1 (lexL_err _ _)
  have hlaid := laid_lex (wideL_laid g hg.ne hg.ok hg.all hg.sep ((lexL 1 l).ts.map ktL) good_of) 1
  rw [kt_texts] at hlaid
  have hc := kt_count hlaid.2
  have hs := hg.small
  rw [(toks_small (by rw [List.length_append]; omega)).1]
  exact ⟨allE_end (by omega) hlaid.1, hlaid.2⟩
end Go.Proofs.Ytammomjnigalbaa
