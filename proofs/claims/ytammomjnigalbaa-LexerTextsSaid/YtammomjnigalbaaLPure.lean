/-
  Lexing, plainly: gaps, tokens, all of a text; two texts one behind the other; texts of tokens; lines. Plain definitions and theorems; no condition.
-/
import Derived.WalkKit
set_option linter.unusedSimpArgs false
set_option linter.unusedVariables false
set_option maxRecDepth 100000
namespace Go.Proofs.Ytammomjnigalbaa
open Go.RowKit

abbrev By := List UInt8
def lLet (c : UInt8) : Bool := decide (97 ≤ c.toNat) && decide (c.toNat ≤ 122)
def lDig (c : UInt8) : Bool := decide (48 ≤ c.toNat) && decide (c.toNat ≤ 57)
def lWord (c : UInt8) : Bool := lLet c || lDig c || decide (c.toNat = 45) || decide (c.toNat = 95)
def lName (c : UInt8) : Bool := lWord c || decide (c.toNat = 46)
def lPath (c : UInt8) : Bool := lName c || decide (c.toNat = 47) || decide (c.toNat = 42)
def lSign (c : UInt8) : Bool := decide (c.toNat = 40) || decide (c.toNat = 41) || decide (c.toNat = 44) || decide (c.toNat = 59) || decide (c.toNat = 61) || decide (c.toNat = 60) || decide (c.toNat = 62) || decide (c.toNat = 42)
def lBlank (c : UInt8) : Bool := decide (c.toNat = 32) || decide (c.toNat = 9) || decide (c.toNat = 10) || decide (c.toNat = 35)
/-- How many bytes of blanks and notes are at the front; 'note': whether a note is under way. -/
def gapL : Bool → By → Nat
  | _, [] => 0
  | n, c :: r => if n || lBlank c then gapL (if c.toNat = 10 then false else n || decide (c.toNat = 35)) r + 1 else 0
def spanL (p : UInt8 → Bool) (l : By) : Nat := (l.takeWhile p).length
/-- What stands behind a word: how long a key is, or the word. -/
def keyL (n : Nat) : By → Nat × Nat
  | [] => (0, n)
  | [_] => (0, n)
  | c :: d :: q => if c.toNat = 46 then (if d.toNat = 42 then (3, n + 2) else if lName d then (3, n + 1 + spanL lName (d :: q)) else (0, n)) else (0, n)
/-- A token's kind and length. -/
def tokL : By → Option (Nat × Nat)
  | [] => none
  | c :: r => if lLet c then some (keyL (spanL lWord (c :: r)) ((c :: r).drop (spanL lWord (c :: r))))
      else if lDig c then some (1, spanL lDig (c :: r))
      else if c.toNat = 47 then some (2, spanL lPath (c :: r))
      else if lSign c then some (4, 1) else none
theorem keyL_cons (n : Nat) (c d : UInt8) (q : By) : keyL n (c :: d :: q) = if c.toNat = 46 then (if d.toNat = 42 then (3, n + 2) else if lName d then (3, n + 1 + spanL lName (d :: q)) else (0, n)) else (0, n) := rfl
theorem gapL_cons (n : Bool) (c : UInt8) (r : By) : gapL n (c :: r) = if n || lBlank c then gapL (if c.toNat = 10 then false else n || decide (c.toNat = 35)) r + 1 else 0 := rfl
theorem tokL_cons (c : UInt8) (r : By) : tokL (c :: r) = if lLet c then some (keyL (spanL lWord (c :: r)) ((c :: r).drop (spanL lWord (c :: r)))) else if lDig c then some (1, spanL lDig (c :: r)) else if c.toNat = 47 then some (2, spanL lPath (c :: r)) else if lSign c then some (4, 1) else none := rfl
def longL (k n : Nat) : Bool := decide (60 < n) || (decide (k = 1) && decide (9 < n))
structure Tk where
  kind : Nat
  text : By
  line : Nat
def nlsL (l : By) : Nat := l.countP (fun c => decide (c.toNat = 10))
/-- All tokens, the line in the end, and why it ends: 4 where all is told. -/
structure Lx where
  ts : List Tk
  line : Nat
  err : Nat
def lexF : Nat → Nat → By → Lx
  | 0, line, _ => ⟨[], line, 4⟩
  | f + 1, line, l => if (l.drop (gapL false l)) = [] then ⟨[], line + nlsL (l.take (gapL false l)), 4⟩ else
      match tokL (l.drop (gapL false l)) with
      | none => ⟨[], line + nlsL (l.take (gapL false l)), 3⟩
      | some (k, n) => if longL k n then ⟨[], line + nlsL (l.take (gapL false l)), 2⟩ else
          ⟨⟨k, (l.drop (gapL false l)).take n, line + nlsL (l.take (gapL false l))⟩ :: (lexF f (line + nlsL (l.take (gapL false l))) ((l.drop (gapL false l)).drop n)).ts,
            (lexF f (line + nlsL (l.take (gapL false l))) ((l.drop (gapL false l)).drop n)).line, (lexF f (line + nlsL (l.take (gapL false l))) ((l.drop (gapL false l)).drop n)).err⟩
def lexL (line : Nat) (l : By) : Lx := lexF (l.length + 1) line l

/-! Bytes. -/
theorem u8_all {P : UInt8 → Prop} (h : ∀ b : BitVec 8, P ⟨b⟩) : ∀ c : UInt8, P c := fun ⟨b⟩ => h b
theorem blank_word : ∀ c : UInt8, lBlank c = true → lPath c = false ∧ lName c = false ∧ lWord c = false ∧ lDig c = false ∧ lLet c = false ∧ lSign c = false ∧ c.toNat ≠ 46 ∧ c.toNat ≠ 42 ∧ c.toNat ≠ 47 := u8_all (by decide +kernel)
theorem let_word : ∀ c : UInt8, lLet c = true → lWord c = true := u8_all (by decide +kernel)
theorem point_word : ∀ c : UInt8, c.toNat = 46 → lWord c = false ∧ lName c = true ∧ lLet c = false := u8_all (by decide +kernel)
theorem slash_path : ∀ c : UInt8, c.toNat = 47 → lPath c = true ∧ lLet c = false ∧ lDig c = false := u8_all (by decide +kernel)
theorem nl_word : ∀ c : UInt8, c.toNat = 10 → lBlank c = true := u8_all (by decide +kernel)
theorem nl10 : lBlank 10 = true := by decide +kernel
theorem nl_path : ∀ c : UInt8, (lPath c = true ∨ lSign c = true) → ¬ c.toNat = 10 := u8_all (by decide +kernel)
theorem word_path : ∀ c : UInt8, lWord c = true → lPath c = true := u8_all (by decide +kernel)
theorem name_path : ∀ c : UInt8, lName c = true → lPath c = true := u8_all (by decide +kernel)
theorem dig_path : ∀ c : UInt8, lDig c = true → lPath c = true := u8_all (by decide +kernel)

/-! Gaps. -/
theorem gapL_le (l : By) : ∀ n, gapL n l ≤ l.length := by
  induction l with
  | nil => intro n; exact Nat.le_refl _
  | cons c r ih =>
    intro n
    unfold gapL
    split
    · have := ih (if c.toNat = 10 then false else n || decide (c.toNat = 35))
      simp only [List.length_cons]
      omega
    · omega
theorem gapL_head (l : By) : ∀ n c r, l.drop (gapL n l) = c :: r → lBlank c = false := by
  induction l with
  | nil => intro n c r h; simp at h
  | cons d q ih =>
    intro n c r h
    unfold gapL at h
    split at h
    · rw [List.drop_succ_cons] at h
      exact ih _ c r h
    · rename_i hb
      rw [List.drop_zero] at h
      cases h
      simp only [Bool.or_eq_true, not_or] at hb
      simpa using hb.2
theorem gapL_app (a b : By) : ∀ n, gapL n a < a.length → gapL n (a ++ b) = gapL n a := by
  induction a with
  | nil => intro n h; simp at h
  | cons c r ih =>
    intro n h
    rw [gapL_cons] at h
    rw [List.cons_append, gapL_cons, gapL_cons]
    split
    · rename_i hb
      rw [if_pos hb] at h
      rw [ih (if c.toNat = 10 then false else n || decide (c.toNat = 35)) (by simp only [List.length_cons] at h; omega)]
    · rfl
/-- A gap that is all of a text, ended by a line's end. -/
theorem gapL_nl (a b : By) : ∀ n, gapL n a = a.length → gapL n (a ++ 10 :: b) = a.length + (1 + gapL false b) := by
  induction a with
  | nil =>
    intro n _
    rw [List.nil_append]
    rw [gapL_cons, if_pos (by rw [nl10, Bool.or_true]), if_pos (by decide), List.length_nil]
    omega
  | cons c r ih =>
    intro n h
    rw [List.cons_append, gapL_cons]
    rw [gapL_cons] at h
    split
    · rename_i hb
      rw [if_pos hb] at h
      rw [ih (if c.toNat = 10 then false else n || decide (c.toNat = 35)) (by simp only [List.length_cons] at h; omega)]
      simp only [List.length_cons]
      omega
    · rename_i hb
      rw [if_neg hb] at h
      simp at h

/-! Tokens. -/
/-- Nothing, or a gap, is behind. -/
def sepL : By → Bool
  | [] => true
  | c :: _ => lBlank c
theorem spanL_app {p : UInt8 → Bool} (hp : ∀ c, lBlank c = true → p c = false) (a b : By) (hb : sepL b = true) : spanL p (a ++ b) = spanL p a := by
  unfold spanL
  induction a with
  | nil =>
    cases b with
    | nil => rfl
    | cons c q => rw [List.nil_append, List.takeWhile_cons, hp c hb]; rfl
  | cons c r ih =>
    rw [List.cons_append, List.takeWhile_cons, List.takeWhile_cons]
    split
    · rw [List.length_cons, List.length_cons, ih]
    · rfl
theorem spanL_le (p : UInt8 → Bool) (l : By) : spanL p l ≤ l.length := (List.takeWhile_sublist p).length_le
theorem spanL_pos {p : UInt8 → Bool} {c : UInt8} {r : By} (h : p c = true) : 0 < spanL p (c :: r) := by
  unfold spanL
  rw [List.takeWhile_cons, if_pos h]
  simp
theorem spanL_take {p : UInt8 → Bool} (l : By) : ∀ c ∈ l.take (spanL p l), p c = true := by
  unfold spanL
  induction l with
  | nil => intro c h; simp at h
  | cons d r ih =>
    rw [List.takeWhile_cons]
    split
    · rename_i hd
      rw [List.length_cons, List.take_succ_cons]
      intro c hc
      rcases List.mem_cons.1 hc with rfl | hc
      · exact hd
      · exact ih c hc
    · intro c h; simp at h
theorem spanL_all {p : UInt8 → Bool} (l r : By) (h : ∀ c ∈ l, p c = true) : spanL p (l ++ r) = l.length + spanL p r := by
  unfold spanL
  induction l with
  | nil => simp
  | cons c q ih =>
    rw [List.cons_append, List.takeWhile_cons, if_pos (h c (by simp)), List.length_cons, ih (fun d hd => h d (by simp [hd])), List.length_cons]
    omega
theorem spanL_one {p : UInt8 → Bool} {c : UInt8} {r : By} (h : p c = false) : spanL p (c :: r) = 0 := by
  unfold spanL
  rw [List.takeWhile_cons, h]
  rfl
theorem spanL_self {p : UInt8 → Bool} (l : By) : spanL p (l.take (spanL p l)) = spanL p l := by
  have h := spanL_all (l.take (spanL p l)) [] (spanL_take l)
  rw [List.append_nil] at h
  rw [h, List.length_take]
  have := spanL_le p l
  unfold spanL at *
  simp
  omega
theorem keyL_le (n : Nat) (q : By) : n ≤ (keyL n q).2 ∧ (keyL n q).2 ≤ n + q.length := by
  unfold keyL
  split
  · exact ⟨Nat.le_refl _, by simp⟩
  · exact ⟨Nat.le_refl _, by simp⟩
  · rename_i c d q
    split
    · split
      · exact ⟨by simp, by simp⟩
      · split
        · have := spanL_le lName (d :: q)
          simp only [List.length_cons] at this ⊢
          exact ⟨by omega, by omega⟩
        · exact ⟨Nat.le_refl _, by simp⟩
    · exact ⟨Nat.le_refl _, by simp⟩
theorem keyL_app (n : Nat) (a b : By) (hb : sepL b = true) : keyL n (a ++ b) = keyL n a := by
  match a, b, hb with
  | [], [], _ => rfl
  | [], [c], hb => rfl
  | [], c :: d :: q, hb =>
    have := blank_word c hb
    show (if c.toNat = 46 then _ else _) = _
    rw [if_neg this.2.2.2.2.2.2.1]
    rfl
  | [x], [], _ => rfl
  | [x], c :: q, hb =>
    have := blank_word c hb
    show (if x.toNat = 46 then (if c.toNat = 42 then _ else if lName c then _ else _) else _) = _
    rw [if_neg this.2.2.2.2.2.2.2.1, this.2.1]
    simp [keyL]
  | x :: y :: q, b, hb =>
    show (if x.toNat = 46 then (if y.toNat = 42 then _ else if lName y then (3, n + 1 + spanL lName (y :: (q ++ b))) else _) else _) = _
    rw [← List.cons_append, spanL_app (fun c h => (blank_word c h).2.1) (y :: q) b hb]
    rfl
theorem tokL_app (a b : By) (ha : a ≠ []) (hb : sepL b = true) : tokL (a ++ b) = tokL a := by
  match a, ha with
  | c :: r, _ =>
    rw [List.cons_append, tokL_cons, tokL_cons, ← List.cons_append, spanL_app (fun c h => (blank_word c h).2.2.1) (c :: r) b hb, spanL_app (fun c h => (blank_word c h).2.2.2.1) (c :: r) b hb, spanL_app (fun c h => (blank_word c h).1) (c :: r) b hb,
      List.drop_append_of_le_length (spanL_le lWord (c :: r)), keyL_app _ _ b hb]
theorem tokL_len {l : By} {k n : Nat} (h : tokL l = some (k, n)) : 0 < n ∧ n ≤ l.length := by
  match l, h with
  | c :: r, h =>
    rw [tokL_cons] at h
    split at h
    · rename_i hc
      have h1 := keyL_le (spanL lWord (c :: r)) ((c :: r).drop (spanL lWord (c :: r)))
      have h2 := spanL_le lWord (c :: r)
      have h3 := spanL_pos (r := r) (let_word c hc)
      rw [List.length_drop] at h1
      have e := Option.some.inj h
      rw [e] at h1
      dsimp only at h1
      exact ⟨by omega, by omega⟩
    · split at h
      · rename_i hc
        cases h
        exact ⟨spanL_pos hc, spanL_le _ _⟩
      · split at h
        · rename_i hc
          cases h
          exact ⟨spanL_pos (slash_path c hc).1, spanL_le _ _⟩
        · split at h
          · cases h
            simp
          · cases h
theorem tokL_take {l : By} {k n : Nat} (h : tokL l = some (k, n)) : tokL (l.take n) = some (k, n) := by
  match l, h with
  | c :: r, h =>
    have hn := (tokL_len h).1
    rw [tokL_cons] at h
    split at h
    · rename_i hc
      have hs := spanL_pos (r := r) (let_word c hc)
      obtain ⟨s, hse⟩ : ∃ s, s = spanL lWord (c :: r) := ⟨_, rfl⟩
      have hall := spanL_take (p := lWord) (c :: r)
      have hle := spanL_le lWord (c :: r)
      rw [← hse] at h hs hall hle
      have e := Option.some.inj h
      -- what is taken is the word, and what the key takes of what is behind it
      have hsp : (c :: r) = (c :: r).take s ++ (c :: r).drop s := (List.take_append_drop _ _).symm
      obtain ⟨W, hW⟩ : ∃ W, W = (c :: r).take s := ⟨_, rfl⟩
      obtain ⟨D, hD⟩ : ∃ D, D = (c :: r).drop s := ⟨_, rfl⟩
      rw [← hW] at hall hsp
      rw [← hD] at e hsp
      have hWl : W.length = s := by rw [hW, List.length_take]; omega
      obtain ⟨W', hW'⟩ : ∃ W', W = c :: W' := by
        rw [hW]
        obtain ⟨m, rfl⟩ : ∃ m, s = m + 1 := ⟨s - 1, by omega⟩
        exact ⟨_, rfl⟩
      have fin : ∀ q : By, sepL q = true ∨ (∃ d q', q = d :: q' ∧ lWord d = false) → (c :: r).take n = W ++ q → keyL s q = (k, n) → tokL ((c :: r).take n) = some (k, n) := by
        intro q hq ht hk
        rw [ht, hW', List.cons_append]
        rw [tokL_cons, if_pos hc, ← List.cons_append, ← hW', spanL_all W q hall, hWl]
        have h0 : spanL lWord q = 0 := by
          rcases hq with hq | ⟨d, q', rfl, hd⟩
          · match q, hq with
            | [], _ => rfl
            | d :: q', hq => exact spanL_one (blank_word d hq).2.2.1
          · exact spanL_one hd
        rw [h0, Nat.add_zero, List.drop_left' hWl, hk]
      unfold keyL at e
      split at e
      · cases e
        exact fin [] (Or.inl rfl) (by rw [List.append_nil, hW]) rfl
      · cases e
        exact fin [] (Or.inl rfl) (by rw [List.append_nil, hW]) rfl
      · rename_i x y q
        split at e
        · rename_i hx
          split at e
          · rename_i hy
            cases e
            refine fin [x, y] (Or.inr ⟨x, [y], rfl, (point_word x hx).1⟩) ?_ ?_
            · rw [hsp, List.take_append, hWl, List.take_of_length_le (by omega), show s + 2 - s = 2 by omega]
              rfl
            · rw [keyL_cons, if_pos hx, if_pos hy]
          · split at e
            · rename_i hy hny
              cases e
              have hsl := spanL_pos (r := q) hny
              obtain ⟨t, ht⟩ : ∃ t, t = spanL lName (y :: q) := ⟨_, rfl⟩
              rw [← ht] at hsl
              obtain ⟨u, rfl⟩ : ∃ u, t = u + 1 := ⟨t - 1, by omega⟩
              refine fin (x :: y :: q.take u) (Or.inr ⟨x, _, rfl, (point_word x hx).1⟩) ?_ ?_
              · rw [← ht, hsp, List.take_append, hWl, List.take_of_length_le (by omega), show s + 1 + (u + 1) - s = u + 2 by omega]
                rfl
              · rw [keyL_cons, if_pos hx, if_neg hy, if_pos hny]
                have := spanL_self (p := lName) (y :: q)
                rw [← ht, List.take_succ_cons] at this
                rw [this, ht]
            · cases e
              exact fin [] (Or.inl rfl) (by rw [List.append_nil, hW]) rfl
        · cases e
          exact fin [] (Or.inl rfl) (by rw [List.append_nil, hW]) rfl
    · rename_i hl
      split at h
      · rename_i hd
        have hs := spanL_self (p := lDig) (c :: r)
        cases h
        obtain ⟨m, hm⟩ : ∃ m, spanL lDig (c :: r) = m + 1 := ⟨spanL lDig (c :: r) - 1, by omega⟩
        rw [hm, List.take_succ_cons] at hs ⊢
        rw [tokL_cons, if_neg hl, if_pos hd, hs]
      · rename_i hd
        split at h
        · rename_i hp
          have hs := spanL_self (p := lPath) (c :: r)
          cases h
          obtain ⟨m, hm⟩ : ∃ m, spanL lPath (c :: r) = m + 1 := ⟨spanL lPath (c :: r) - 1, by omega⟩
          rw [hm, List.take_succ_cons] at hs ⊢
          rw [tokL_cons, if_neg hl, if_neg hd, if_pos hp, hs]
        · rename_i hp
          split at h
          · rename_i hsg
            cases h
            rw [List.take_succ_cons, List.take_zero]
            rw [tokL_cons, if_neg hl, if_neg hd, if_neg hp, if_pos hsg]
          · cases h
theorem tokL_bytes {l : By} {k n : Nat} (h : tokL l = some (k, n)) : ∀ c ∈ l.take n, ¬ c.toNat = 10 := by
  match l, h with
  | c :: r, h =>
    rw [tokL_cons] at h
    split at h
    · rename_i hc
      have hle := spanL_le lWord (c :: r)
      have hall := spanL_take (p := lWord) (c :: r)
      obtain ⟨s, hse⟩ : ∃ s, s = spanL lWord (c :: r) := ⟨_, rfl⟩
      rw [← hse] at h hall hle
      have e := Option.some.inj h
      have hsp : (c :: r) = (c :: r).take s ++ (c :: r).drop s := (List.take_append_drop _ _).symm
      obtain ⟨W, hW⟩ : ∃ W, W = (c :: r).take s := ⟨_, rfl⟩
      obtain ⟨D, hD⟩ : ∃ D, D = (c :: r).drop s := ⟨_, rfl⟩
      rw [← hW] at hall hsp
      rw [← hD] at e hsp
      have hWl : W.length = s := by rw [hW, List.length_take]; omega
      have hWn : ∀ d ∈ W, ¬ d.toNat = 10 := fun d hd => nl_path d (Or.inl (word_path d (hall d hd)))
      rw [hsp, List.take_append, hWl]
      intro d hd
      rcases List.mem_append.1 hd with hd | hd
      · exact hWn d (List.mem_of_mem_take hd)
      · rcases D with _ | ⟨x, _ | ⟨y, q⟩⟩
        · simp at hd
        · have e : (0, s) = (k, n) := e
          cases e
          rw [Nat.sub_self] at hd
          simp at hd
        · rw [keyL_cons] at e
          split at e
          · rename_i hx
            split at e
            · rename_i hy
              cases e
              rw [show s + 2 - s = 2 by omega] at hd
              simp only [List.take_succ_cons, List.take_zero, List.mem_cons, List.not_mem_nil, or_false] at hd
              rcases hd with rfl | rfl <;> omega
            · split at e
              · rename_i hy hny
                have hn := spanL_take (p := lName) (y :: q)
                cases e
                rw [show s + 1 + spanL lName (y :: q) - s = spanL lName (y :: q) + 1 by omega, List.take_succ_cons] at hd
                rcases List.mem_cons.1 hd with rfl | hd
                · omega
                · exact nl_path d (Or.inl (name_path d (hn d hd)))
              · cases e; rw [Nat.sub_self] at hd; simp at hd
          · cases e; rw [Nat.sub_self] at hd; simp at hd
    · split at h
      · have hn := spanL_take (p := lDig) (c :: r)
        cases h
        exact fun d hd => nl_path d (Or.inl (dig_path d (hn d hd)))
      · split at h
        · have hn := spanL_take (p := lPath) (c :: r)
          cases h
          exact fun d hd => nl_path d (Or.inl (hn d hd))
        · split at h
          · rename_i hsg
            cases h
            intro d hd
            simp only [List.take_succ_cons, List.take_zero, List.mem_cons, List.not_mem_nil, or_false] at hd
            subst hd
            exact nl_path d (Or.inr hsg)
          · cases h
end Go.Proofs.Ytammomjnigalbaa
