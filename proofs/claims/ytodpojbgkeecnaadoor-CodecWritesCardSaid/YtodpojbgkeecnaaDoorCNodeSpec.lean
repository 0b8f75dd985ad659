/-
  The document's nodes: a tree in a list, told by places; how such a list lies in memory. Plain definitions and theorems; conditions: those in each.
-/
import Derived.Test.YtodpojbgkeecnaaDoorCLawKit
set_option linter.unusedSimpArgs false
set_option linter.unusedVariables false
namespace Go.Proofs.YtodpojbgkeecnaaDoor
open Go.RowKit

/-- A node. -/
structure Nd where
  k : Int
  n : Int
  b : List UInt8
  l : List Int
mutual
/-- A tree's nodes, behind so many; the last is its own. -/
def T.flat : T → Nat → List Nd
  | .mk k n b l, o => (T.flatAll l o).1 ++ [⟨k, n, b, (T.flatAll l o).2⟩]
/-- The nodes of many, their places. -/
def T.flatAll : List T → Nat → List Nd × List Int
  | [], _ => ([], [])
  | t :: r, o => (t.flat o ++ (T.flatAll r (o + (t.flat o).length)).1, (((o + (t.flat o).length : Nat) : Int) - 1) :: (T.flatAll r (o + (t.flat o).length)).2)
end
theorem flatAll_snoc : ∀ (l : List T) (t : T) (o : Nat), T.flatAll (l ++ [t]) o = ((T.flatAll l o).1 ++ t.flat (o + (T.flatAll l o).1.length), (T.flatAll l o).2 ++ [((o + (T.flatAll l o).1.length + (t.flat (o + (T.flatAll l o).1.length)).length : Nat) : Int) - 1])
  | [], t, o => by simp [T.flatAll]
  | s :: r, t, o => by
    have ih := flatAll_snoc r t (o + (s.flat o).length)
    show T.flatAll (s :: (r ++ [t])) o = _
    rw [T.flatAll, ih, T.flatAll]
    simp only [List.length_append, List.append_assoc, List.cons_append, Nat.add_assoc]
theorem flatAll_places : ∀ (l : List T) (o : Nat), (T.flatAll l o).2.length = l.length
  | [], _ => rfl
  | t :: r, o => by
    rw [T.flatAll]
    simp [flatAll_places r]
theorem flatAll_take {l : List T} {k : Nat} {t : T} (h : l[k]? = some t) (o : Nat) : T.flatAll (l.take (k + 1)) o = ((T.flatAll (l.take k) o).1 ++ t.flat (o + (T.flatAll (l.take k) o).1.length), (T.flatAll (l.take k) o).2 ++ [((o + (T.flatAll (l.take k) o).1.length + (t.flat (o + (T.flatAll (l.take k) o).1.length)).length : Nat) : Int) - 1]) := by
  rw [List.take_add_one, h]
  exact flatAll_snoc _ t o
theorem enc_two (t : T) : 2 ≤ t.enc.length := by
  obtain ⟨k, n, b, l⟩ := t
  rw [T.enc]
  split
  · simp
  · split
    · have := itoa_ne (b.length : Int)
      cases h : Lib.itoa (b.length : Int) with
      | nil => exact absurd h this
      | cons x r => simp; omega
    · simp
mutual
theorem flat_length : ∀ (t : T) (o : Nat), t.anyB = false → (t.flat o).length + 1 ≤ t.enc.length
  | .mk k n b l, o, h => by
    have h2 := enc_two (.mk k n b l)
    have ih := flatAll_length l o
    rw [T.flat, List.length_append]
    simp only [List.length_cons, List.length_nil]
    rcases T.right_shape h with ⟨rfl, rfl, rfl⟩ | ⟨rfl, rfl, rfl⟩ | ⟨rfl, rfl, rfl, hl⟩
    · rw [T.flatAll]; simp only [List.length_nil]; omega
    · rw [T.flatAll]; simp only [List.length_nil]; omega
    · have := ih hl
      rw [enc_list]
      omega
theorem flatAll_length : ∀ (l : List T) (o : Nat), T.anyAll l = false → (T.flatAll l o).1.length ≤ (T.encAll l).length
  | [], _, _ => by simp [T.flatAll]
  | t :: r, o, h => by
    rw [T.anyAll, Bool.or_eq_false_iff] at h
    have h1 := flat_length t o h.1
    have h2 := flatAll_length r (o + (t.flat o).length) h.2
    rw [T.flatAll, T.encAll, List.length_append, List.length_append]
    omega
end
mutual
/-- The node at a place tells the tree. -/
def Rep (ns : List Nd) : T → Int → Prop
  | .mk k n b l, p => ∃ (j : Nat) (ps : List Int), p = j ∧ ns[j]? = some ⟨k, n, b, ps⟩ ∧ RepAll ns l ps
def RepAll (ns : List Nd) : List T → List Int → Prop
  | [], ps => ps = []
  | t :: r, ps => ∃ p qs, ps = p :: qs ∧ Rep ns t p ∧ RepAll ns r qs
end
mutual
theorem rep_flat : ∀ (t : T) (ns more : List Nd), Rep (ns ++ t.flat ns.length ++ more) t (((ns.length + (t.flat ns.length).length : Nat) : Int) - 1)
  | .mk k n b l, ns, more => by
    have ih := repAll_flat l ns (⟨k, n, b, (T.flatAll l ns.length).2⟩ :: more)
    rw [Rep]
    refine ⟨ns.length + (T.flatAll l ns.length).1.length, (T.flatAll l ns.length).2, ?_, ?_, ?_⟩
    · rw [T.flat, List.length_append]; simp; omega
    · rw [T.flat, List.append_assoc, List.append_assoc, List.getElem?_append_right (by omega), List.getElem?_append_right (by omega)]
      simp
    · rw [T.flat]
      simpa only [List.append_assoc, List.cons_append, List.nil_append] using ih
theorem repAll_flat : ∀ (l : List T) (ns more : List Nd), RepAll (ns ++ (T.flatAll l ns.length).1 ++ more) l (T.flatAll l ns.length).2
  | [], ns, more => by rw [RepAll]; rfl
  | t :: r, ns, more => by
    have ih := rep_flat t ns ((T.flatAll r (ns.length + (t.flat ns.length).length)).1 ++ more)
    have ih2 := repAll_flat r (ns ++ t.flat ns.length) more
    rw [List.length_append] at ih2
    rw [RepAll, T.flatAll]
    refine ⟨_, _, rfl, ?_, ?_⟩
    · simpa only [List.append_assoc] using ih
    · simpa only [List.append_assoc] using ih2
end
theorem RepAll.get {ns : List Nd} : ∀ {l : List T} {ps : List Int}, RepAll ns l ps → ps.length = l.length ∧ ∀ (i : Nat) (t : T), l[i]? = some t → ∃ p, ps[i]? = some p ∧ Rep ns t p
  | [], ps, h => by
    rw [RepAll] at h
    subst h
    exact ⟨rfl, fun i t ht => by simp at ht⟩
  | s :: r, ps, h => by
    rw [RepAll] at h
    obtain ⟨p, qs, rfl, h1, h2⟩ := h
    obtain ⟨h3, h4⟩ := h2.get
    refine ⟨by simp [h3], fun i t ht => ?_⟩
    cases i with
    | zero =>
      simp only [List.getElem?_cons_zero, Option.some.injEq] at ht
      subst ht
      exact ⟨p, rfl, h1⟩
    | succ i =>
      obtain ⟨q, hq, hr⟩ := h4 i t (by simpa using ht)
      exact ⟨q, by simpa using hq, hr⟩

/-- Numbers in memory, in blocks of Q. -/
def PQ (w : World) (Q : Nat → Prop) (A : Option Addr) (n c : Nat) (ps : List Int) : Prop := PIn w A n c ps ∧ (0 < n → ∃ g o, A = some ⟨g, o, none⟩ ∧ Q g)
theorem PQ.keep {w w' : World} {Q Q' : Nat → Prop} {A : Option Addr} {n c : Nat} {ps : List Int} (h : PQ w Q A n c ps) (hsz : w.heap.size ≤ w'.heap.size) (hk : ∀ g, Q g → g < w.heap.size → w'.heap[g]? = w.heap[g]? ∧ Q' g) : PQ w' Q' A n c ps := by
  obtain ⟨hp, hq⟩ := h
  refine ⟨⟨hp.len, hp.cap, hp.bound, fun hn => ?_⟩, fun hn => ?_⟩
  · obtain ⟨g, o, hA, hg, hc⟩ := hp.cells hn
    obtain ⟨g', o', hA', hQ⟩ := hq hn
    rw [hA] at hA'
    simp only [Option.some.injEq, Addr.mk.injEq, and_true] at hA'
    obtain ⟨rfl, rfl⟩ := hA'
    refine ⟨g, o, hA, by omega, fun j x hx => ?_⟩
    rw [← hc j x hx]
    simp only [World.cell?, (hk g hQ hg).1]
  · obtain ⟨g, o, hA, hg, _⟩ := hp.cells hn
    obtain ⟨g', o', hA', hQ⟩ := hq hn
    rw [hA] at hA'
    simp only [Option.some.injEq, Addr.mk.injEq, and_true] at hA'
    obtain ⟨rfl, rfl⟩ := hA'
    exact ⟨g, o, hA, (hk g hQ hg).2⟩
/-- A node in memory. -/
def NdIn (w : World) (Q : Nat → Prop) (d : Nd) (c0 c1 c2 c3 : Value) : Prop := c0 = .int .i64 d.k ∧ c1 = .int .i64 d.n ∧ (∃ A n c, c2 = .slice A n c ∧ BIn w Q A n c d.b) ∧ ∃ A n c, c3 = .slice A n c ∧ PQ w Q A n c d.l
def NRow (w : World) (Q : Nat → Prop) : List Nd → List Value → Prop
  | [], xs => xs = []
  | d :: r, xs => ∃ c0 c1 c2 c3 ys, xs = c0 :: c1 :: c2 :: c3 :: ys ∧ NdIn w Q d c0 c1 c2 c3 ∧ NRow w Q r ys
theorem NdIn.keep {w w' : World} {Q Q' : Nat → Prop} {d : Nd} {c0 c1 c2 c3 : Value} (h : NdIn w Q d c0 c1 c2 c3) (hsz : w.heap.size ≤ w'.heap.size) (hk : ∀ g, Q g → g < w.heap.size → w'.heap[g]? = w.heap[g]? ∧ Q' g) : NdIn w' Q' d c0 c1 c2 c3 := by
  obtain ⟨h0, h1, ⟨A, n, c, h2, hB⟩, A', n', c', h3, hP⟩ := h
  exact ⟨h0, h1, ⟨A, n, c, h2, hB.keep hk⟩, A', n', c', h3, hP.keep hsz hk⟩
theorem NRow.keep {w w' : World} {Q Q' : Nat → Prop} (hsz : w.heap.size ≤ w'.heap.size) (hk : ∀ g, Q g → g < w.heap.size → w'.heap[g]? = w.heap[g]? ∧ Q' g) : ∀ {ns : List Nd} {xs : List Value}, NRow w Q ns xs → NRow w' Q' ns xs
  | [], xs, h => h
  | d :: r, xs, h => by
    obtain ⟨c0, c1, c2, c3, ys, hx, hd, hr⟩ := h
    exact ⟨c0, c1, c2, c3, ys, hx, hd.keep hsz hk, NRow.keep hsz hk hr⟩
theorem NRow.length {w : World} {Q : Nat → Prop} : ∀ {ns : List Nd} {xs : List Value}, NRow w Q ns xs → xs.length = ns.length * 4
  | [], xs, h => by rw [NRow] at h; subst h; rfl
  | d :: r, xs, h => by
    obtain ⟨c0, c1, c2, c3, ys, rfl, _, hr⟩ := h
    have := NRow.length hr
    simp [this]
    omega
theorem NRow.snoc {w : World} {Q : Nat → Prop} : ∀ {ns : List Nd} {xs : List Value} {d : Nd} {c0 c1 c2 c3 : Value}, NRow w Q ns xs → NdIn w Q d c0 c1 c2 c3 → NRow w Q (ns ++ [d]) (xs ++ [c0, c1, c2, c3])
  | [], xs, d, c0, c1, c2, c3, h, hd => by
    rw [NRow] at h
    subst h
    exact ⟨c0, c1, c2, c3, [], rfl, hd, rfl⟩
  | e :: r, xs, d, c0, c1, c2, c3, h, hd => by
    obtain ⟨d0, d1, d2, d3, ys, rfl, he, hr⟩ := h
    exact ⟨d0, d1, d2, d3, _, rfl, he, NRow.snoc hr hd⟩
theorem NRow.get {w : World} {Q : Nat → Prop} : ∀ {ns : List Nd} {xs : List Value}, NRow w Q ns xs → ∀ (i : Nat) (d : Nd), ns[i]? = some d → ∃ c0 c1 c2 c3, xs[i * 4]? = some c0 ∧ xs[i * 4 + 1]? = some c1 ∧ xs[i * 4 + 2]? = some c2 ∧ xs[i * 4 + 3]? = some c3 ∧ NdIn w Q d c0 c1 c2 c3
  | [], xs, h, i, d, hd => by simp at hd
  | e :: r, xs, h, 0, d, hd => by
    obtain ⟨c0, c1, c2, c3, ys, rfl, he, _⟩ := h
    simp only [List.getElem?_cons_zero, Option.some.injEq] at hd
    subst hd
    exact ⟨c0, c1, c2, c3, rfl, rfl, rfl, rfl, he⟩
  | e :: r, xs, h, i + 1, d, hd => by
    obtain ⟨c0, c1, c2, c3, ys, rfl, _, hr⟩ := h
    obtain ⟨d0, d1, d2, d3, h0, h1, h2, h3, h4⟩ := NRow.get hr i d (by simpa using hd)
    refine ⟨d0, d1, d2, d3, ?_, ?_, ?_, ?_, h4⟩
    · rw [show (i + 1) * 4 = i * 4 + 4 by omega]; exact h0
    · rw [show (i + 1) * 4 + 1 = i * 4 + 1 + 4 by omega]; exact h1
    · rw [show (i + 1) * 4 + 2 = i * 4 + 2 + 4 by omega]; exact h2
    · rw [show (i + 1) * 4 + 3 = i * 4 + 3 + 4 by omega]; exact h3
/-- A list of nodes in memory, in blocks of Q. -/
structure NIn (w : World) (Q : Nat → Prop) (A : Option Addr) (n c : Nat) (ns : List Nd) (xs : List Value) : Prop where
  len : ns.length = n
  cap : n ≤ c
  nil : A = none → n = 0 ∧ c = 0
  cells : 0 < n → ∃ g o, A = some ⟨g, o, none⟩ ∧ g < w.heap.size ∧ Q g ∧ ∀ (j : Nat) (u : Value), xs[j]? = some u → w.cell? ⟨g, o + j, none⟩ = some u
  row : NRow w Q ns xs
theorem NIn.keep {w w' : World} {Q Q' : Nat → Prop} {A : Option Addr} {n c : Nat} {ns : List Nd} {xs : List Value} (h : NIn w Q A n c ns xs) (hsz : w.heap.size ≤ w'.heap.size) (hk : ∀ g, Q g → g < w.heap.size → w'.heap[g]? = w.heap[g]? ∧ Q' g) : NIn w' Q' A n c ns xs := by
  refine ⟨h.len, h.cap, h.nil, fun hn => ?_, h.row.keep hsz hk⟩
  obtain ⟨g, o, hA, hg, hq, hc⟩ := h.cells hn
  refine ⟨g, o, hA, by omega, (hk g hq hg).2, fun j x hx => ?_⟩
  rw [← hc j x hx]
  simp only [World.cell?, (hk g hq hg).1]
theorem NIn.below {w w' : World} {Q : Nat → Prop} {A : Option Addr} {n c : Nat} {ns : List Nd} {xs : List Value} (h : NIn w Q A n c ns xs) (hb : Below w.heap.size w w') : NIn w' Q A n c ns xs := h.keep hb.size fun g hq hg => ⟨hb.block g hg, hq⟩
theorem NIn.get {w : World} {Q : Nat → Prop} {g o n c : Nat} {ns : List Nd} {xs : List Value} (h : NIn w Q (some ⟨g, o, none⟩) n c ns xs) (i : Nat) (d : Nd) (hd : ns[i]? = some d) : ∃ c0 c1 c2 c3, w.cell? ⟨g, o + i * 4, none⟩ = some c0 ∧ w.cell? ⟨g, o + i * 4 + 1, none⟩ = some c1 ∧ w.cell? ⟨g, o + i * 4 + 2, none⟩ = some c2 ∧ w.cell? ⟨g, o + i * 4 + 3, none⟩ = some c3 ∧ NdIn w Q d c0 c1 c2 c3 := by
  obtain ⟨g', o', hA, _, _, hc⟩ := h.cells (by have := h.len; have := (List.getElem?_eq_some_iff.1 hd).1; omega)
  simp only [Option.some.injEq, Addr.mk.injEq, and_true] at hA
  obtain ⟨rfl, rfl⟩ := hA
  obtain ⟨c0, c1, c2, c3, h0, h1, h2, h3, h4⟩ := h.row.get i d hd
  exact ⟨c0, c1, c2, c3, hc _ _ h0, hc _ _ h1, hc _ _ h2, hc _ _ h3, h4⟩
theorem NIn.none (w : World) (Q : Nat → Prop) : NIn w Q none 0 0 [] [] := ⟨rfl, Nat.le_refl _, fun _ => ⟨rfl, rfl⟩, fun h => absurd h (by omega), rfl⟩

theorem iinfo : (Tryd.prog.info? 3).map (fun i => (i.zero, i.size, i.bytes)) = some (some (.int .i64 0), 1, 8) := by kernel_rfl
theorem ninfo : (Tryd.prog.info? 61).map (fun i => (i.zero, i.size, i.bytes)) = some (some (.agg #[.int .i64 0, .int .i64 0, .slice none 0 0, .slice none 0 0]), 4, 64) := by kernel_rfl
/-- Numbers that a slice owns. -/
theorem own_pin {w : World} {B : Nat} {v : Value} {n : Nat} {ps : List Int} (h : w.ownsRow B 3 1 v n (ps.map (Value.int .i64))) (hr : ∀ x ∈ ps, -9223372036854775808 ≤ x ∧ x ≤ 9223372036854775807) : ∃ A c, v = .slice A n c ∧ PQ w (fun g => B ≤ g) A n c ps := by
  have hl : ps.length = n := by have := h.1; simpa using this
  rcases h.2 with ⟨rfl, rfl⟩ | ⟨g, cap, cur, rfl, hb, hg, hnc, _⟩
  · exact ⟨none, 0, rfl, ⟨hl, Nat.le_refl _, hr, fun h => absurd h (by omega)⟩, fun h => absurd h (by omega)⟩
  · refine ⟨some ⟨g, 0, none⟩, cap, rfl, ⟨hl, hnc, hr, fun hn => ⟨g, 0, rfl, (Array.getElem?_eq_some_iff.1 hg).1, fun j x hx => ?_⟩⟩, fun _ => ⟨g, 0, rfl, hb⟩⟩
    have := h.cells (g := g) rfl j (.int .i64 x) (by rw [List.getElem?_map, hx]; rfl)
    rw [add_off] at this
    exact this
/-- Nodes that a slice owns. -/
theorem own_nin {w : World} {B : Nat} {Q : Nat → Prop} {v : Value} {n : Nat} {ns : List Nd} {xs : List Value} (h : w.ownsRow B 61 4 v n xs) (hl : ns.length = n) (hr : NRow w Q ns xs) (hq : ∀ g, B ≤ g → Q g) : ∃ A c, v = .slice A n c ∧ NIn w Q A n c ns xs := by
  rcases h.2 with ⟨rfl, rfl⟩ | ⟨g, cap, cur, rfl, hb, hg, hnc, _⟩
  · exact ⟨none, 0, rfl, hl, Nat.le_refl _, fun _ => ⟨rfl, rfl⟩, fun h => absurd h (by omega), hr⟩
  · refine ⟨some ⟨g, 0, none⟩, cap, rfl, hl, hnc, (fun h => by cases h), fun hn => ⟨g, 0, rfl, (Array.getElem?_eq_some_iff.1 hg).1, hq g hb, fun j u hu => ?_⟩, hr⟩
    have := h.cells (g := g) rfl j u hu
    rw [add_off] at this
    exact this

end Go.Proofs.YtodpojbgkeecnaaDoor
