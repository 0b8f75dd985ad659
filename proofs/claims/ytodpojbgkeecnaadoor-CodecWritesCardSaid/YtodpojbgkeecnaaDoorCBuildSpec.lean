/-
  Build, plainly: the lists that tokens open and shut; how deep they are, whether all is right. Plain definitions and theorems; no condition but those in each.
-/
import Derived.Test.YtodpojbgkeecnaaDoorCValue
import Derived.Test.YtodpojbgkeecnaaDoorCCheck
set_option linter.unusedSimpArgs false
set_option linter.unusedVariables false
namespace Go.Proofs.YtodpojbgkeecnaaDoor
open Go.RowKit

/-- A token. -/
structure Tok where
  kind : Int
  n : Int
  b : List UInt8
/-- Which of five a token is. -/
def Tok.sort (t : Tok) : Int := (t.kind % 18446744073709551616) % 5
/-- Where building stands: the lists that are open, the outermost first; whether all was right; how deep it was. -/
structure BS where
  ls : List (List T)
  right : Bool
  deep : Nat
def pushTop : List (List T) → T → List (List T)
  | [], _ => []
  | [l], t => [l ++ [t]]
  | l :: r, t => l :: pushTop r t
/-- The innermost list is shut. -/
def popTop : List (List T) → List (List T)
  | [] => []
  | [l] => [l]
  | [l, m] => [l ++ [.mk 2 0 [] m]]
  | l :: r => l :: popTop r
def Tok.leaf (t : Tok) : T := if t.sort = 0 then .mk 0 t.n [] [] else if t.sort = 1 then .mk 1 0 (t.b.take 100) [] else .mk t.n t.n (t.b.take 100) []
def BS.step (s : BS) (t : Tok) : BS :=
  if t.sort = 0 ∨ t.sort = 1 then { s with ls := pushTop s.ls t.leaf }
  else if t.sort = 2 then { s with ls := s.ls ++ [[]], deep := max s.deep (s.ls.length + 1) }
  else if t.sort = 3 then { s with ls := popTop s.ls }
  else { ls := pushTop s.ls t.leaf, right := s.right && (decide (t.n = 0) && (t.b.take 100).isEmpty), deep := if t.n = 2 then max s.deep (s.ls.length + 1) else s.deep }
def BS.start : BS := ⟨[[]], true, 1⟩
/-- What is built of the first k tokens. -/
def builtN (ts : List Tok) (k : Nat) : BS := (ts.take k).foldl BS.step BS.start
theorem builtN_succ {ts : List Tok} {k : Nat} {t : Tok} (h : ts[k]? = some t) : builtN ts (k + 1) = (builtN ts k).step t := by
  unfold builtN
  rw [List.take_add_one, h]
  simp
/-- All lists are shut but the outermost. -/
def shutAll : List (List T) → List T
  | [] => []
  | [l] => l
  | l :: r => l ++ [.mk 2 0 [] (shutAll r)]

/-- How deep open lists are. -/
def depthOf : List (List T) → Nat
  | [] => 0
  | l :: r => max (1 + T.depAll l) (if r = [] then 0 else 1 + depthOf r)
/-- How many bytes they have. -/
def bulk : List (List T) → Nat
  | [] => 0
  | l :: r => (T.encAll l).length + bulk r
def anyOf : List (List T) → Bool
  | [] => false
  | l :: r => T.anyAll l || anyOf r
def okOf (k : Nat) : List (List T) → Prop
  | [] => True
  | l :: r => (T.okAll l ∧ l.length ≤ k) ∧ okOf k r

theorem pushTop_ne {ls : List (List T)} {t : T} (h : ls ≠ []) : pushTop ls t ≠ [] := by
  match ls, h with
  | [l], _ => simp [pushTop]
  | l :: m :: r, _ => simp [pushTop]
theorem pushTop_length : ∀ (ls : List (List T)) (t : T), (pushTop ls t).length = ls.length
  | [], _ => rfl
  | [l], _ => rfl
  | l :: m :: r, t => by simp only [pushTop, List.length_cons, pushTop_length (m :: r) t]
theorem popTop_length : ∀ (ls : List (List T)), 1 < ls.length → (popTop ls).length + 1 = ls.length
  | [], h => by simp at h
  | [l], h => by simp at h
  | [l, m], _ => rfl
  | l :: m :: p :: r, _ => by
    have := popTop_length (m :: p :: r) (by simp)
    simp only [popTop, List.length_cons] at this ⊢
    omega
theorem popTop_one : ∀ (ls : List (List T)), ls.length ≤ 1 → popTop ls = ls
  | [], _ => rfl
  | [l], _ => rfl
  | l :: m :: r, h => by simp at h
theorem depthOf_push : ∀ (ls : List (List T)) (t : T), ls ≠ [] → depthOf (pushTop ls t) = max (depthOf ls) (ls.length + t.dep)
  | [], _, h => absurd rfl h
  | [l], t, _ => by
    simp only [pushTop, depthOf, T.depAll_snoc, if_true, List.length_cons, List.length_nil]
    omega
  | l :: m :: r, t, _ => by
    have ih := depthOf_push (m :: r) t (by simp)
    have hne := pushTop_ne (ls := m :: r) (t := t) (by simp)
    simp only [pushTop, depthOf, if_neg hne, List.length_cons] at ih ⊢
    rw [if_neg (by simp)]
    omega
theorem depthOf_cons (l : List T) {r : List (List T)} (h : r ≠ []) : depthOf (l :: r) = max (1 + T.depAll l) (1 + depthOf r) := by rw [depthOf, if_neg h]
theorem depthOf_open : ∀ (ls : List (List T)), ls ≠ [] → depthOf (ls ++ [[]]) = max (depthOf ls) (ls.length + 1)
  | [], h => absurd rfl h
  | [l], _ => by simp [depthOf, T.depAll]
  | l :: m :: r, _ => by
    have ih := depthOf_open (m :: r) (by simp)
    show depthOf (l :: ((m :: r) ++ [[]])) = _
    rw [depthOf_cons l (by simp), ih, depthOf_cons l (by simp)]
    simp only [List.length_cons]
    omega
theorem depthOf_one (l : List T) : depthOf [l] = 1 + T.depAll l := by rw [depthOf, if_pos rfl]; omega
theorem popTop_ne {l m : List T} {r : List (List T)} : popTop (l :: m :: r) ≠ [] := by
  have := popTop_length (l :: m :: r) (by simp)
  intro e
  rw [e] at this
  simp at this
theorem depthOf_pop : ∀ (ls : List (List T)), depthOf (popTop ls) = depthOf ls
  | [] => rfl
  | [l] => rfl
  | [l, m] => by
    have h3 : (T.mk 2 0 [] m).dep = T.depAll m + 1 := by rw [T.dep, if_pos rfl]
    show depthOf [l ++ [T.mk 2 0 [] m]] = _
    rw [depthOf_one, depthOf_cons l (by simp), depthOf_one, T.depAll_snoc, h3]
    omega
  | l :: m :: p :: r => by
    have ih := depthOf_pop (m :: p :: r)
    show depthOf (l :: popTop (m :: p :: r)) = _
    rw [depthOf_cons l popTop_ne, ih, depthOf_cons l (by simp)]
theorem shutAll_cons (l : List T) {r : List (List T)} (h : r ≠ []) : shutAll (l :: r) = l ++ [.mk 2 0 [] (shutAll r)] := by
  match r, h with
  | m :: r, _ => rw [shutAll]; simp
theorem T.leaf_dep (t : Tok) : t.leaf.dep = if t.sort = 0 ∨ t.sort = 1 then 0 else if t.n = 2 then 1 else 0 := by
  unfold Tok.leaf
  by_cases h0 : t.sort = 0
  · rw [if_pos h0, if_pos (.inl h0), T.dep, if_neg (by omega)]
  · rw [if_neg h0]
    by_cases h1 : t.sort = 1
    · rw [if_pos h1, if_pos (.inr h1), T.dep, if_neg (by omega)]
    · rw [if_neg h1, if_neg (by simp [h0, h1]), T.dep]; simp [T.depAll]
/-- How deep was told is how deep it is. -/
theorem step_deep (s : BS) (t : Tok) (hne : s.ls ≠ []) (h : s.deep = depthOf s.ls) : (s.step t).deep = depthOf (s.step t).ls := by
  have hpos : s.ls.length ≤ depthOf s.ls := by
    have : ∀ ls : List (List T), ls.length ≤ depthOf ls := by
      intro ls
      induction ls with
      | nil => simp [depthOf]
      | cons l r ih =>
        rw [depthOf]
        cases r with
        | nil => simp
        | cons m r => rw [if_neg (by simp)]; simp only [List.length_cons] at ih ⊢; omega
    exact this _
  unfold BS.step
  split
  · rename_i h1
    show s.deep = depthOf (pushTop s.ls t.leaf)
    rw [depthOf_push _ _ hne, T.leaf_dep, if_pos h1]
    omega
  · split
    · show max s.deep (s.ls.length + 1) = depthOf (s.ls ++ [[]])
      rw [depthOf_open _ hne, h]
    · split
      · show s.deep = depthOf (popTop s.ls)
        rw [depthOf_pop, h]
      · rename_i h1 _ _
        show (if t.n = 2 then max s.deep (s.ls.length + 1) else s.deep) = depthOf (pushTop s.ls t.leaf)
        rw [depthOf_push _ _ hne, T.leaf_dep, if_neg h1]
        split <;> omega
theorem shutAll_deep : ∀ (ls : List (List T)), ls ≠ [] → 1 + T.depAll (shutAll ls) = depthOf ls
  | [], h => absurd rfl h
  | [l], _ => by rw [depthOf_one]; rfl
  | l :: m :: r, _ => by
    have ih := shutAll_deep (m :: r) (by simp)
    rw [shutAll_cons l (by simp), T.depAll_snoc, T.dep, if_pos rfl, depthOf_cons l (by simp)]
    omega
theorem shutAll_pop : ∀ (ls : List (List T)), shutAll (popTop ls) = shutAll ls
  | [] => rfl
  | [l] => rfl
  | [l, m] => by
    show shutAll [l ++ [.mk 2 0 [] m]] = _
    rw [shutAll_cons l (by simp)]
    rfl
  | l :: m :: p :: r => by
    have ih := shutAll_pop (m :: p :: r)
    show shutAll (l :: popTop (m :: p :: r)) = _
    rw [shutAll_cons l popTop_ne, ih, shutAll_cons l (by simp)]

/-- What Build answers: its list's values, whether all was right, how deep it is. -/
def builtT (ts : List Tok) : T := .mk 2 0 [] (shutAll (builtN ts 60).ls)

theorem bulk_push : ∀ (ls : List (List T)) (t : T), bulk (pushTop ls t) ≤ bulk ls + t.enc.length
  | [], _ => by simp [pushTop, bulk]
  | [l], t => by simp [pushTop, bulk, T.encAll_snoc]
  | l :: m :: r, t => by
    have ih := bulk_push (m :: r) t
    simp only [pushTop, bulk] at ih ⊢
    omega
theorem bulk_open : ∀ (ls : List (List T)), bulk (ls ++ [[]]) = bulk ls
  | [] => by simp [bulk, T.encAll]
  | l :: r => by
    show bulk (l :: (r ++ [[]])) = _
    rw [bulk, bulk_open r, bulk]
theorem enc_list (l : List T) : (T.mk 2 0 [] l).enc.length = (T.encAll l).length + 2 := by
  rw [T.enc, if_neg (by omega), if_neg (by omega)]
  simp
theorem bulk_pop : ∀ (ls : List (List T)), bulk (popTop ls) ≤ bulk ls + 2
  | [] => by simp [popTop, bulk]
  | [l] => by simp [popTop]
  | [l, m] => by
    show bulk [l ++ [T.mk 2 0 [] m]] ≤ _
    simp only [bulk, T.encAll_snoc, List.length_append, enc_list]
    omega
  | l :: m :: p :: r => by
    have ih := bulk_pop (m :: p :: r)
    show bulk (l :: popTop (m :: p :: r)) ≤ _
    rw [bulk, bulk]
    omega
theorem bulk_shut : ∀ (ls : List (List T)), (T.encAll (shutAll ls)).length ≤ bulk ls + 2 * ls.length
  | [] => by simp [shutAll, bulk, T.encAll]
  | [l] => by simp [shutAll, bulk]
  | l :: m :: r => by
    have ih := bulk_shut (m :: r)
    rw [shutAll_cons l (by simp), T.encAll_snoc, List.length_append, enc_list, bulk]
    simp only [List.length_cons] at ih ⊢
    omega
theorem anyOf_cons (l : List T) (r : List (List T)) : anyOf (l :: r) = (T.anyAll l || anyOf r) := rfl
theorem anyOf_push : ∀ (ls : List (List T)) (t : T), ls ≠ [] → anyOf (pushTop ls t) = (anyOf ls || t.anyB)
  | [], _, h => absurd rfl h
  | [l], t, _ => by simp [pushTop, anyOf, T.anyAll_snoc]
  | l :: m :: r, t, _ => by
    have ih := anyOf_push (m :: r) t (by simp)
    show anyOf (l :: pushTop (m :: r) t) = _
    rw [anyOf_cons, ih, anyOf_cons l, Bool.or_assoc]
theorem anyOf_open : ∀ (ls : List (List T)), anyOf (ls ++ [[]]) = anyOf ls
  | [] => rfl
  | l :: r => by
    show anyOf (l :: (r ++ [[]])) = _
    rw [anyOf, anyOf_open r, anyOf]
theorem any_list (l : List T) : (T.mk 2 0 [] l).anyB = T.anyAll l := by
  rw [T.anyB, T.strangeB, if_neg (by omega), if_neg (by omega), if_pos rfl]
  simp
theorem anyOf_pop : ∀ (ls : List (List T)), anyOf (popTop ls) = anyOf ls
  | [] => rfl
  | [l] => rfl
  | [l, m] => by
    show anyOf [l ++ [T.mk 2 0 [] m]] = _
    simp only [anyOf, T.anyAll_snoc, any_list, Bool.or_false]
  | l :: m :: p :: r => by
    have ih := anyOf_pop (m :: p :: r)
    show anyOf (l :: popTop (m :: p :: r)) = _
    rw [anyOf_cons, ih, anyOf_cons l]
theorem anyOf_shut : ∀ (ls : List (List T)), ls ≠ [] → T.anyAll (shutAll ls) = anyOf ls
  | [], h => absurd rfl h
  | [l], _ => by simp [shutAll, anyOf]
  | l :: m :: r, _ => by
    have ih := anyOf_shut (m :: r) (by simp)
    rw [shutAll_cons l (by simp), T.anyAll_snoc, any_list, ih, anyOf_cons l]

theorem okAll_snoc : ∀ (l : List T) (t : T), T.okAll l → t.ok → T.okAll (l ++ [t])
  | [], t, _, h => by
    show T.okAll [t]
    rw [T.okAll, T.okAll]
    exact ⟨h, trivial⟩
  | s :: r, t, h, ht => by
    show T.okAll (s :: (r ++ [t]))
    rw [T.okAll] at h ⊢
    exact ⟨h.1, okAll_snoc r t h.2 ht⟩
theorem ok_list {l : List T} (h : T.okAll l) (hn : l.length ≤ 1000000) : (T.mk 2 0 [] l).ok := by
  rw [T.ok]
  exact ⟨by omega, by omega, by simp, hn, h⟩
theorem okOf_mono {j k : Nat} (h : j ≤ k) : ∀ {ls : List (List T)}, okOf j ls → okOf k ls
  | [], _ => trivial
  | l :: r, ⟨⟨h1, h2⟩, h3⟩ => ⟨⟨h1, by omega⟩, okOf_mono h h3⟩
theorem okOf_push {k : Nat} : ∀ {ls : List (List T)} {t : T}, okOf k ls → t.ok → okOf (k + 1) (pushTop ls t)
  | [], _, _, _ => trivial
  | [l], t, ⟨⟨h1, h2⟩, _⟩, ht => ⟨⟨okAll_snoc l t h1 ht, by simp; omega⟩, trivial⟩
  | l :: m :: r, t, ⟨⟨h1, h2⟩, h3⟩, ht => ⟨⟨h1, by omega⟩, okOf_push (ls := m :: r) h3 ht⟩
theorem okOf_open {k : Nat} : ∀ {ls : List (List T)}, okOf k ls → okOf (k + 1) (ls ++ [[]])
  | [], _ => ⟨⟨by rw [T.okAll]; trivial, by simp⟩, trivial⟩
  | l :: r, ⟨⟨h1, h2⟩, h3⟩ => ⟨⟨h1, by omega⟩, okOf_open (ls := r) h3⟩
theorem okOf_pop {k : Nat} (hk : k ≤ 999999) : ∀ {ls : List (List T)}, okOf k ls → okOf (k + 1) (popTop ls)
  | [], _ => trivial
  | [l], ⟨⟨h1, h2⟩, _⟩ => ⟨⟨h1, by omega⟩, trivial⟩
  | [l, m], ⟨⟨h1, h2⟩, ⟨h3, h4⟩, _⟩ => ⟨⟨okAll_snoc l _ h1 (ok_list h3 (by omega)), by simp; omega⟩, trivial⟩
  | l :: m :: p :: r, ⟨⟨h1, h2⟩, h3⟩ => ⟨⟨h1, by omega⟩, okOf_pop (ls := m :: p :: r) hk h3⟩
theorem okOf_shut {k : Nat} (hk : k ≤ 999999) : ∀ {ls : List (List T)}, okOf k ls → T.okAll (shutAll ls) ∧ (shutAll ls).length ≤ k + 1
  | [], _ => ⟨by rw [shutAll, T.okAll]; trivial, by simp [shutAll]⟩
  | [l], ⟨⟨h1, h2⟩, _⟩ => ⟨h1, by simp [shutAll]; omega⟩
  | l :: m :: r, ⟨⟨h1, h2⟩, h3⟩ => by
    have ih := okOf_shut hk (ls := m :: r) h3
    rw [shutAll_cons l (by simp)]
    exact ⟨okAll_snoc l _ h1 (ok_list ih.1 (by omega)), by simp; omega⟩


/-- A token's number is one of 64 bits. -/
def Tok.fits (t : Tok) : Prop := -9223372036854775808 ≤ t.n ∧ t.n ≤ 9223372036854775807
theorem Tok.leaf_ok {t : Tok} (h : t.fits) : t.leaf.ok := by
  obtain ⟨h1, h2⟩ := h
  have hb : (t.b.take 100).length ≤ 1000000 := by rw [List.length_take]; omega
  unfold Tok.leaf
  split
  · rw [T.ok, T.okAll]; exact ⟨by omega, ⟨h1, h2⟩, by simp, by simp, trivial⟩
  · split
    · rw [T.ok, T.okAll]; exact ⟨by omega, by omega, hb, by simp, trivial⟩
    · rw [T.ok, T.okAll]; exact ⟨⟨h1, h2⟩, ⟨h1, h2⟩, hb, by simp, trivial⟩
theorem Tok.leaf_enc {t : Tok} (h : t.fits) : t.leaf.enc.length ≤ 130 := by
  have hb : (t.b.take 100).length ≤ 100 := by rw [List.length_take]; omega
  have h1 := Lib.itoa_length_le t.n h.1 h.2
  have h2 := Lib.itoa_length_le ((t.b.take 100).length : Int) (by omega) (by omega)
  unfold Tok.leaf
  split
  · rw [T.enc, if_pos rfl]; simp; omega
  · split
    · rw [T.enc, if_neg (by omega), if_pos rfl]
      simp only [List.length_append, List.length_cons]
      omega
    · rw [T.enc]
      split
      · simp; omega
      · split
        · simp only [List.length_append, List.length_cons]; omega
        · simp [T.encAll]
theorem Tok.leaf_any (t : Tok) : t.leaf.anyB = if t.sort = 0 ∨ t.sort = 1 then false else !(decide (t.n = 0) && (t.b.take 100).isEmpty) := by
  unfold Tok.leaf
  by_cases h0 : t.sort = 0
  · rw [if_pos h0, if_pos (.inl h0), T.anyB, T.strangeB, if_pos rfl, T.anyAll]; rfl
  · rw [if_neg h0]
    by_cases h1 : t.sort = 1
    · rw [if_pos h1, if_pos (.inr h1), T.anyB, T.strangeB, if_neg (by omega), if_pos rfl, T.anyAll]; rfl
    · rw [if_neg h1, if_neg (by simp [h0, h1]), T.anyB, T.strangeB, T.anyAll]
      by_cases n0 : t.n = 0
      · rw [if_pos n0]; simp [n0]
      · rw [if_neg n0]
        by_cases n1 : t.n = 1
        · rw [if_pos n1]; simp [n1]
        · rw [if_neg n1]
          by_cases n2 : t.n = 2
          · rw [if_pos n2]; simp [n2]
          · rw [if_neg n2]; simp [n0]

/-- What holds wherever building stands. -/
structure BOk (s : BS) (k : Nat) : Prop where
  ne : s.ls ≠ []
  deep : s.deep = depthOf s.ls
  right : s.right = !anyOf s.ls
  ok : okOf k s.ls
  bulk : bulk s.ls ≤ 130 * k
  many : s.ls.length ≤ k + 1
theorem BOk.start : BOk BS.start 0 := ⟨by simp [BS.start], by simp [BS.start, depthOf, T.depAll], by simp [BS.start, anyOf, T.anyAll], ⟨⟨by rw [T.okAll]; trivial, by simp⟩, trivial⟩, by simp [BS.start, Proofs.YtodpojbgkeecnaaDoor.bulk, T.encAll], by simp [BS.start]⟩
theorem BOk.step {s : BS} {k : Nat} {t : Tok} (h : BOk s k) (ht : t.fits) (hk : k ≤ 1000) : BOk (s.step t) (k + 1) := by
  have hd := step_deep s t h.ne h.deep
  have hle := Tok.leaf_enc ht
  have hla := Tok.leaf_any t
  have hb := h.bulk
  have hm := h.many
  have hr := h.right
  unfold BS.step at hd ⊢
  by_cases h1 : t.sort = 0 ∨ t.sort = 1
  · rw [if_pos h1] at hd ⊢ hla
    exact ⟨pushTop_ne h.ne, hd, by show s.right = !anyOf (pushTop s.ls t.leaf); rw [anyOf_push _ _ h.ne, hla, Bool.or_false, hr], okOf_push h.ok (Tok.leaf_ok ht), by have := bulk_push s.ls t.leaf; show Proofs.YtodpojbgkeecnaaDoor.bulk (pushTop s.ls t.leaf) ≤ _; omega, by show (pushTop s.ls t.leaf).length ≤ _; rw [pushTop_length]; omega⟩
  · rw [if_neg h1] at hd ⊢ hla
    by_cases h2 : t.sort = 2
    · rw [if_pos h2] at hd ⊢
      exact ⟨by simp, hd, by show s.right = !anyOf (s.ls ++ [[]]); rw [anyOf_open, hr], okOf_open h.ok, by show Proofs.YtodpojbgkeecnaaDoor.bulk (s.ls ++ [[]]) ≤ _; rw [bulk_open]; omega, by simp; omega⟩
    · rw [if_neg h2] at hd ⊢
      by_cases h3 : t.sort = 3
      · rw [if_pos h3] at hd ⊢
        refine ⟨?_, hd, by show s.right = !anyOf (popTop s.ls); rw [anyOf_pop, hr], okOf_pop (by omega) h.ok, by have := bulk_pop s.ls; show Proofs.YtodpojbgkeecnaaDoor.bulk (popTop s.ls) ≤ _; omega, ?_⟩
        · show popTop s.ls ≠ []
          rcases Nat.lt_or_ge 1 s.ls.length with hl | hl
          · have := popTop_length s.ls hl
            intro e
            rw [e] at this
            simp at this
            omega
          · rw [popTop_one _ hl]; exact h.ne
        · show (popTop s.ls).length ≤ _
          rcases Nat.lt_or_ge 1 s.ls.length with hl | hl
          · have := popTop_length s.ls hl; omega
          · rw [popTop_one _ hl]; omega
      · rw [if_neg h3] at hd ⊢
        refine ⟨pushTop_ne h.ne, hd, ?_, okOf_push h.ok (Tok.leaf_ok ht), by have := bulk_push s.ls t.leaf; show Proofs.YtodpojbgkeecnaaDoor.bulk (pushTop s.ls t.leaf) ≤ _; omega, by show (pushTop s.ls t.leaf).length ≤ _; rw [pushTop_length]; omega⟩
        show (s.right && (decide (t.n = 0) && (t.b.take 100).isEmpty)) = !anyOf (pushTop s.ls t.leaf)
        rw [anyOf_push _ _ h.ne, hla, hr, Bool.not_or, Bool.not_not]
theorem builtN_ok {ts : List Tok} (hf : ∀ t ∈ ts, t.fits) : ∀ (k : Nat), k ≤ 1000 → BOk (builtN ts k) k
  | 0, _ => BOk.start
  | k + 1, hk => by
    have ih := builtN_ok hf k (by omega)
    by_cases hkl : k < ts.length
    · have h := List.getElem?_eq_getElem hkl
      rw [builtN_succ h]
      exact ih.step (hf _ (List.getElem_mem hkl)) (by omega)
    · have e : builtN ts (k + 1) = builtN ts k := by
        unfold builtN
        rw [List.take_of_length_le (by omega), List.take_of_length_le (by omega)]
      rw [e]
      exact ⟨ih.ne, ih.deep, ih.right, okOf_mono (by omega) ih.ok, by have := ih.bulk; omega, by have := ih.many; omega⟩

/-- What Build builds: bounds; what it tells of it is so. -/
theorem built_facts {ts : List Tok} (hf : ∀ t ∈ ts, t.fits) : (builtT ts).ok ∧ (builtT ts).enc.length ≤ 131072 ∧ (builtN ts 60).right = !(builtT ts).anyB ∧ (builtN ts 60).deep = (builtT ts).dep := by
  have h := builtN_ok hf 60 (by omega)
  have h1 := okOf_shut (by omega) h.ok
  refine ⟨ok_list h1.1 (by omega), ?_, ?_, ?_⟩
  · unfold builtT
    rw [enc_list]
    have := bulk_shut (builtN ts 60).ls
    have := h.bulk
    have := h.many
    omega
  · unfold builtT
    rw [any_list, anyOf_shut _ h.ne, h.right]
  · unfold builtT
    rw [T.dep, if_pos rfl, h.deep, ← shutAll_deep _ h.ne]
    omega

end Go.Proofs.YtodpojbgkeecnaaDoor
