/-
  Values as trees, and how a tree lies in memory. Plain definitions and theorems; no condition.
-/
import Derived.Test.YtodpojbgkeecnaaDoorCMem
import Derived.Lib.UnsafeStr
import Derived.Lib.Hide
set_option linter.unusedSimpArgs false
set_option linter.unusedVariables false
namespace Go.Proofs.YtodpojbgkeecnaaDoor
open Go.RowKit

/-- A value: its kind, its number, its bytes, its list. -/
inductive T where
  | mk (k n : Int) (b : List UInt8) (l : List T)

/-- Bytes in memory, in blocks of Q. -/
structure BIn (w : World) (Q : Nat → Prop) (A : Option Addr) (n c : Nat) (b : List UInt8) : Prop where
  len : b.length = n
  cap : n ≤ c
  capm : c ≤ maxLen
  nil : A = none → n = 0 ∧ c = 0
  cells : 0 < n → ∃ g o, A = some ⟨g, o, none⟩ ∧ Q g ∧ ∀ j x, b[j]? = some x → w.cell? ⟨g, o + j, none⟩ = some (.int .u8 (x.toNat : Int))

mutual
/-- The value reads as the tree; all that it leads to lies in blocks of Q. -/
def In (w : World) (Q : Nat → Prop) : T → Value → Prop
  | .mk k n b l, v => ∃ A nb cb L nl cl xs, v = .agg #[.int .i64 k, .int .i64 n, .slice A nb cb, .slice L nl cl] ∧ BIn w Q A nb cb b ∧ l.length = nl ∧ nl ≤ cl ∧ cl ≤ maxLen ∧ (L = none → nl = 0 ∧ cl = 0) ∧
      (0 < nl → ∃ g o, L = some ⟨g, o, none⟩ ∧ Q g ∧ ∀ (j : Nat) (u : Value), xs[j]? = some u → w.cell? ⟨g, o + j, none⟩ = some u) ∧ Row w Q l xs
/-- The cells read as the trees, four cells a tree. -/
def Row (w : World) (Q : Nat → Prop) : List T → List Value → Prop
  | [], xs => xs = []
  | t :: r, xs => ∃ c0 c1 c2 c3 ys, xs = c0 :: c1 :: c2 :: c3 :: ys ∧ In w Q t (.agg #[c0, c1, c2, c3]) ∧ Row w Q r ys
end

section
variable {w w' : World} {Q Q' : Nat → Prop}
theorem BIn.keep {A : Option Addr} {n c : Nat} {b : List UInt8} (h : BIn w Q A n c b) (hk : ∀ g, Q g → g < w.heap.size → w'.heap[g]? = w.heap[g]? ∧ Q' g) : BIn w' Q' A n c b := by
  refine ⟨h.len, h.cap, h.capm, h.nil, fun hn => ?_⟩
  obtain ⟨g, o, hA, hq, hc⟩ := h.cells hn
  have hlt : g < w.heap.size := by
    have h0 := hc 0 (b[0]'(by have := h.len; omega)) (List.getElem?_eq_getElem _)
    exact World.block_lt_of_cell? w _ h0
  obtain ⟨h1, h2⟩ := hk g hq hlt
  refine ⟨g, o, hA, h2, fun j x hx => ?_⟩
  rw [← hc j x hx]
  simp only [World.cell?, h1]
mutual
theorem In.keep : ∀ (t : T) (v : Value), In w Q t v → (∀ g, Q g → g < w.heap.size → w'.heap[g]? = w.heap[g]? ∧ Q' g) → In w' Q' t v
  | .mk k n b l, v, h, hk => by
    rw [In] at h ⊢
    obtain ⟨A, nb, cb, L, nl, cl, xs, hv, hb, h1, h2, h3, h4, h5, h6⟩ := h
    refine ⟨A, nb, cb, L, nl, cl, xs, hv, hb.keep hk, h1, h2, h3, h4, fun hn => ?_, Row.keep l xs h6 hk⟩
    obtain ⟨g, o, hL, hq, hc⟩ := h5 hn
    have hlt : g < w.heap.size := by
      match l, xs, h1, h6 with
      | [], _, h1, _ => simp at h1; omega
      | t :: r, _, _, h6 =>
        rw [Row] at h6
        obtain ⟨c0, c1, c2, c3, ys, rfl, _, _⟩ := h6
        exact World.block_lt_of_cell? w _ (hc 0 c0 rfl)
    obtain ⟨k1, k2⟩ := hk g hq hlt
    refine ⟨g, o, hL, k2, fun j u hu => ?_⟩
    rw [← hc j u hu]
    simp only [World.cell?, k1]
theorem Row.keep : ∀ (l : List T) (xs : List Value), Row w Q l xs → (∀ g, Q g → g < w.heap.size → w'.heap[g]? = w.heap[g]? ∧ Q' g) → Row w' Q' l xs
  | [], xs, h, _ => by rw [Row] at h ⊢; exact h
  | t :: r, xs, h, hk => by
    rw [Row] at h ⊢
    obtain ⟨c0, c1, c2, c3, ys, hx, ht, hr⟩ := h
    exact ⟨c0, c1, c2, c3, ys, hx, In.keep t _ ht hk, Row.keep r ys hr hk⟩
end
theorem Row.length : ∀ {l : List T} {xs : List Value}, Row w Q l xs → xs.length = l.length * 4
  | [], xs, h => by rw [Row] at h; subst h; rfl
  | t :: r, xs, h => by
    rw [Row] at h
    obtain ⟨c0, c1, c2, c3, ys, rfl, _, hr⟩ := h
    have := Row.length hr
    simp [this]
    omega
theorem Row.nil : Row w Q [] [] := by rw [Row]
theorem Row.snoc : ∀ {l : List T} {xs : List Value} {t : T} {c0 c1 c2 c3 : Value}, Row w Q l xs → In w Q t (.agg #[c0, c1, c2, c3]) → Row w Q (l ++ [t]) (xs ++ [c0, c1, c2, c3])
  | [], xs, t, c0, c1, c2, c3, h, ht => by
    rw [Row] at h
    subst h
    show Row w Q [t] [c0, c1, c2, c3]
    rw [Row]
    exact ⟨c0, c1, c2, c3, [], rfl, ht, Row.nil⟩
  | s :: r, xs, t, c0, c1, c2, c3, h, ht => by
    rw [Row] at h
    obtain ⟨d0, d1, d2, d3, ys, rfl, hs, hr⟩ := h
    show Row w Q (s :: (r ++ [t])) (d0 :: d1 :: d2 :: d3 :: (ys ++ [c0, c1, c2, c3]))
    rw [Row]
    exact ⟨d0, d1, d2, d3, _, rfl, hs, Row.snoc hr ht⟩
theorem Row.get : ∀ {l : List T} {xs : List Value}, Row w Q l xs → ∀ (i : Nat) (t : T), l[i]? = some t → ∃ c0 c1 c2 c3, xs[i * 4]? = some c0 ∧ xs[i * 4 + 1]? = some c1 ∧ xs[i * 4 + 2]? = some c2 ∧ xs[i * 4 + 3]? = some c3 ∧ In w Q t (.agg #[c0, c1, c2, c3])
  | [], xs, h, i, t, ht => by simp at ht
  | s :: r, xs, h, 0, t, ht => by
    rw [Row] at h
    obtain ⟨c0, c1, c2, c3, ys, rfl, hs, _⟩ := h
    simp only [List.getElem?_cons_zero, Option.some.injEq] at ht
    subst ht
    exact ⟨c0, c1, c2, c3, rfl, rfl, rfl, rfl, hs⟩
  | s :: r, xs, h, i + 1, t, ht => by
    rw [Row] at h
    obtain ⟨c0, c1, c2, c3, ys, rfl, _, hr⟩ := h
    obtain ⟨d0, d1, d2, d3, h0, h1, h2, h3, h4⟩ := Row.get hr i t (by simpa using ht)
    refine ⟨d0, d1, d2, d3, ?_, ?_, ?_, ?_, h4⟩
    · rw [show (i + 1) * 4 = i * 4 + 4 by omega]; exact h0
    · rw [show (i + 1) * 4 + 1 = i * 4 + 1 + 4 by omega]; exact h1
    · rw [show (i + 1) * 4 + 2 = i * 4 + 2 + 4 by omega]; exact h2
    · rw [show (i + 1) * 4 + 3 = i * 4 + 3 + 4 by omega]; exact h3
end

section
variable {w w' : World} {Q Q' : Nat → Prop}
/-- What a tree's list needs in memory. -/
structure LIn (w : World) (Q : Nat → Prop) (L : Option Addr) (n c : Nat) (l : List T) (xs : List Value) : Prop where
  len : l.length = n
  cap : n ≤ c
  capm : c ≤ maxLen
  nil : L = none → n = 0 ∧ c = 0
  cells : 0 < n → ∃ g o, L = some ⟨g, o, none⟩ ∧ Q g ∧ ∀ (j : Nat) (u : Value), xs[j]? = some u → w.cell? ⟨g, o + j, none⟩ = some u
  row : Row w Q l xs
theorem In.open_ {k n : Int} {b : List UInt8} {l : List T} {v : Value} (h : In w Q (.mk k n b l) v) : ∃ A nb cb L nl cl xs, v = .agg #[.int .i64 k, .int .i64 n, .slice A nb cb, .slice L nl cl] ∧ BIn w Q A nb cb b ∧ LIn w Q L nl cl l xs := by
  rw [In] at h
  obtain ⟨A, nb, cb, L, nl, cl, xs, hv, hb, h1, h2, h3, h4, h5, h6⟩ := h
  exact ⟨A, nb, cb, L, nl, cl, xs, hv, hb, h1, h2, h3, h4, h5, h6⟩
theorem In.shut {k n : Int} {b : List UInt8} {l : List T} {A L : Option Addr} {nb cb nl cl : Nat} {xs : List Value} (hb : BIn w Q A nb cb b) (hl : LIn w Q L nl cl l xs) : In w Q (.mk k n b l) (.agg #[.int .i64 k, .int .i64 n, .slice A nb cb, .slice L nl cl]) := by
  rw [In]
  exact ⟨A, nb, cb, L, nl, cl, xs, rfl, hb, hl.len, hl.cap, hl.capm, hl.nil, hl.cells, hl.row⟩
theorem LIn.keep {L : Option Addr} {n c : Nat} {l : List T} {xs : List Value} (h : LIn w Q L n c l xs) (hk : ∀ g, Q g → g < w.heap.size → w'.heap[g]? = w.heap[g]? ∧ Q' g) : LIn w' Q' L n c l xs := by
  refine ⟨h.len, h.cap, h.capm, h.nil, fun hn => ?_, Row.keep l xs h.row hk⟩
  obtain ⟨g, o, hL, hq, hc⟩ := h.cells hn
  have hlt : g < w.heap.size := by
    have hlen := h.row.length
    have := h.len
    have h0 := hc 0 (xs[0]'(by omega)) (List.getElem?_eq_getElem _)
    exact World.block_lt_of_cell? w _ h0
  obtain ⟨k1, k2⟩ := hk g hq hlt
  refine ⟨g, o, hL, k2, fun j u hu => ?_⟩
  rw [← hc j u hu]
  simp only [World.cell?, k1]
theorem BIn.none (w : World) (Q : Nat → Prop) : BIn w Q none 0 0 [] := ⟨rfl, Nat.le_refl _, Nat.zero_le _, fun _ => ⟨rfl, rfl⟩, fun h => absurd h (by omega)⟩
theorem LIn.none (w : World) (Q : Nat → Prop) : LIn w Q none 0 0 [] [] := ⟨rfl, Nat.le_refl _, Nat.zero_le _, fun _ => ⟨rfl, rfl⟩, fun h => absurd h (by omega), Row.nil⟩
theorem keep_below (hb : Below w.heap.size w w') : ∀ g, Q g → g < w.heap.size → w'.heap[g]? = w.heap[g]? ∧ Q g := fun g hq hg => ⟨hb.block g hg, hq⟩
theorem In.below {t : T} {v : Value} (h : In w Q t v) (hb : Below w.heap.size w w') : In w' Q t v := h.keep t v (keep_below hb)
theorem BIn.below {A : Option Addr} {n c : Nat} {b : List UInt8} (h : BIn w Q A n c b) (hb : Below w.heap.size w w') : BIn w' Q A n c b := h.keep (keep_below hb)
theorem LIn.below {L : Option Addr} {n c : Nat} {l : List T} {xs : List Value} (h : LIn w Q L n c l xs) (hb : Below w.heap.size w w') : LIn w' Q L n c l xs := h.keep (keep_below hb)
theorem In.mono {t : T} {v : Value} (h : In w Q t v) (hk : ∀ g, Q g → g < w.heap.size → Q' g) : In w Q' t v := h.keep t v fun g hq hg => ⟨rfl, hk g hq hg⟩
/-- The value at a place of a list, its cells. -/
theorem LIn.get {g o n c : Nat} {l : List T} {xs : List Value} (h : LIn w Q (some ⟨g, o, .none⟩) n c l xs) (i : Nat) (t : T) (ht : l[i]? = some t) : ∃ c0 c1 c2 c3, w.cell? ⟨g, o + i * 4, .none⟩ = some c0 ∧ w.cell? ⟨g, o + i * 4 + 1, .none⟩ = some c1 ∧ w.cell? ⟨g, o + i * 4 + 2, .none⟩ = some c2 ∧ w.cell? ⟨g, o + i * 4 + 3, .none⟩ = some c3 ∧ In w Q t (.agg #[c0, c1, c2, c3]) := by
  obtain ⟨g', o', hL, _, hc⟩ := h.cells (by have := h.len; have := (List.getElem?_eq_some_iff.1 ht).1; omega)
  simp only [Option.some.injEq, Addr.mk.injEq, and_true] at hL
  obtain ⟨rfl, rfl⟩ := hL
  obtain ⟨c0, c1, c2, c3, h0, h1, h2, h3, h4⟩ := h.row.get i t ht
  exact ⟨c0, c1, c2, c3, hc _ _ h0, by rw [Nat.add_assoc]; exact hc _ _ h1, by rw [Nat.add_assoc]; exact hc _ _ h2, by rw [Nat.add_assoc]; exact hc _ _ h3, h4⟩
end

/-- Bounds that every walk needs: numbers of 64 bits, bytes and lists that aren't longer than a machine's. -/
def T.okN : Nat → T → Prop
  | 0, _ => True
  | f + 1, .mk k n b l => (-9223372036854775808 ≤ k ∧ k ≤ 9223372036854775807) ∧ (-9223372036854775808 ≤ n ∧ n ≤ 9223372036854775807) ∧ b.length ≤ 1000000 ∧ l.length ≤ 1000000 ∧ ∀ t ∈ l, T.okN f t
/-- How many lists are one in another, all values told. -/
def T.high : T → Nat
  | .mk _ _ _ l => (l.attach.map fun ⟨t, _⟩ => T.high t + 1).foldr max 0
theorem T.high_lt {k n : Int} {b : List UInt8} {l : List T} {t : T} (h : t ∈ l) : T.high t < T.high (.mk k n b l) := by
  rw [T.high]
  have : ∀ (m : List Nat) (x : Nat), x ∈ m → x ≤ m.foldr max 0 := by
    intro m
    induction m with
    | nil => intro x hx; cases hx
    | cons y r ih =>
      intro x hx
      rw [List.foldr_cons]
      rcases List.mem_cons.1 hx with rfl | hx
      · omega
      · have := ih x hx; omega
  have h1 : T.high t + 1 ∈ l.attach.map fun ⟨t, _⟩ => T.high t + 1 := List.mem_map.2 ⟨⟨t, h⟩, List.mem_attach _ _, rfl⟩
  have := this _ _ h1
  omega

end Go.Proofs.YtodpojbgkeecnaaDoor
