/-
  append, once more: which block the result lies in: the old one, or a new one. Plain theorems on runs; conditions: those in each.
-/
import Derived.Test.YtodpojbgkeecnaaDoorCTree
import Derived.Test.YtodpojbgkeecnaaDoorChecked
import Derived.Laws.AppendOwnNone
set_option linter.unusedSimpArgs false
set_option linter.unusedVariables false
namespace Go.Proofs.YtodpojbgkeecnaaDoor
open Go.RowKit

theorem add_off (g o j : Nat) : (⟨g, o, none⟩ : Addr).add j = ⟨g, o + j, none⟩ := by unfold Addr.add; split <;> simp_all
theorem ok_inj {α : Type} {v v' : α} {w w' : World} (h : Result.ok v w = .ok v' w') : v = v' ∧ w = w' := by
  injection h with h1 h2
  exact ⟨h1, h2⟩
section
variable {P : Program} (w : World)
theorem run_append_new (base : Nat) (t ty e : TypeId) (i : TypeInfo) (z : Value) (size bytes : Nat) (ht : P.underlying t = some (.slice e)) (hi : P.info? e = some i) (hz : i.zero = some z)
    (hsize : i.size = size) (hby : i.bytes = bytes) (hzs : z.cells.size = size) (hsz : 0 < size)
    (v : Value) (n : Nat) (xs : List Value) (hown : w.ownsRow base e size v n xs)
    (a : Addr) (m c : Nat) (news : List Value) (hl : news.length = m * size) (hnews : ∀ j u, news[j]? = some u → w.cell? (a.add j) = some u) (h1 : ∀ u ∈ news, u.oneCell' = true)
    (h63 : n + m ≤ maxLen) (hbytes : (n + m) * bytes ≤ 140737488355328) (hbase : base ≤ w.heap.size) :
    ∃ v' w', (Builtin.append_ #[t, t] ty #[v, .slice (some a) m c]).run P w = .ok v' w' ∧ w'.ownsRow base e size v' (n + m) (xs ++ news) ∧ w.grownBy w' v.ownBlock ∧
      (v'.ownBlock = v.ownBlock ∨ v'.ownBlock = some w.heap.size) := by
  obtain ⟨v', w', hr, ho, hg, hnil⟩ := run_append_own w base t ty e i z size bytes ht hi hz hsize hby hzs hsz v n xs hown a m c news hl hnews h1 h63 hbytes hbase
  refine ⟨v', w', hr, ho, hg, ?_⟩
  subst hsize
  subst hby
  have hsmall : n + m ≤ 9223372036854775807 := by simp only [maxLen] at h63; omega
  rcases hown.2 with ⟨rfl, rfl⟩ | ⟨g, cap, cur, rfl, hbg, hgg, hnc, hcm, hcs, htake⟩
  · by_cases hm : m = 0
    · have := hnil.2 ⟨rfl, hm⟩
      subst this
      exact .inl rfl
    · have hx := run_append_nil (P := P) w t ty e i z ht hi hz a m c news hl hnews (by omega) (by omega) (by have hb := hbytes; simp only [Nat.zero_add] at hb; omega)
      rw [hr] at hx
      obtain ⟨rfl, _⟩ := ok_inj hx
      exact .inr rfl
  · by_cases hroom : n + m ≤ cap
    · have hfit : n * i.size + news.length ≤ cur.size := by rw [hl, hcs, ← Nat.add_mul]; exact Nat.mul_le_mul_right _ hroom
      have hx := run_append_room (P := P) w t ty e i ht hi g n cap cur hgg a m c news hl hnews h1 hroom hfit
      rw [hr] at hx
      obtain ⟨rfl, _⟩ := ok_inj hx
      exact .inl rfl
    · have holds : ∀ j u, xs[j]? = some u → w.cell? ((⟨g, 0, none⟩ : Addr).add j) = some u := hown.cells (g := g) rfl
      have hx := run_append_grow (P := P) w t ty e i z ht hi hz ⟨g, 0, none⟩ n cap xs hown.1 holds a m c news hl hnews (by omega) (by omega) (growslice_fits (by omega) hbytes)
      rw [hr] at hx
      obtain ⟨rfl, _⟩ := ok_inj hx
      exact .inr rfl
theorem wpList_append_new {ops : Array Oper} {rest : List Oper} {o : Oper} {a : Act} {Q : Exit → Act → World → Prop} (hgd : o.guard = none) (s x : Operand) (t : TypeId)
    (ho : o.op = .call { callee := .builtin .append, args := #[s, x], argTypes := #[t, t] })
    (base : Nat) (e : TypeId) (i : TypeInfo) (z : Value) (size bytes : Nat) (ht : P.underlying t = some (.slice e)) (hi : P.info? e = some i) (hz : i.zero = some z)
    (hsize : i.size = size) (hby : i.bytes = bytes) (hzs : z.cells.size = size) (hsz : 0 < size)
    (v : Value) (n : Nat) (xs : List Value) (hs : a.eval s = v) (hown : w.ownsRow base e size v n xs)
    (ad : Addr) (m c : Nat) (news : List Value) (hx : a.eval x = .slice (some ad) m c) (hl : news.length = m * size) (hnews : ∀ j u, news[j]? = some u → w.cell? (ad.add j) = some u) (h1 : ∀ u ∈ news, u.oneCell' = true)
    (h63 : n + m ≤ maxLen) (hbytes : (n + m) * bytes ≤ 140737488355328) (hbase : base ≤ w.heap.size)
    (h : ∀ v' w', w'.ownsRow base e size v' (n + m) (xs ++ news) → w.grownBy w' v.ownBlock → (v'.ownBlock = v.ownBlock ∨ v'.ownBlock = some w.heap.size) → wpList P ops Q rest (a.put o.dst v') w') : wpList P ops Q (o :: rest) a w := by
  refine wpList_plain hgd fun K hK => ?_
  obtain ⟨v', w', hr, h2, h3, h4⟩ := run_append_new (P := P) w base t o.type e i z size bytes ht hi hz hsize hby hzs hsz v n xs hown ad m c news hl hnews h1 h63 hbytes hbase
  unfold Oper.wp execOp
  simp only [ho, resolve, invoke, builtin, Sem.run_bind, Sem.run_pure, Result.andThen_ok, List.map_toArray, List.map_cons, List.map_nil, hs, hx, hr]
  exact hK _ _ (h v' w' h2 h3 h4)
end

theorem tinfo : (Tryd.prog.info? 26).map (fun i => (i.zero, i.size, i.bytes)) = some (some (.agg #[.int .i64 0, .int .i64 0, .slice none 0 0, .slice none 0 0]), 4, 64) := by kernel_rfl
theorem binfo : (Tryd.prog.info? 5).map (fun i => (i.zero, i.size, i.bytes)) = some (some (.int .u8 0), 1, 1) := by kernel_rfl

/-- A slice that owns its cells reads so. -/
theorem own_bin {w : World} {B : Nat} {v : Value} {b : List UInt8} (h : w.ownsRow B 5 1 v b.length (Lib.byteCells b)) : ∃ A c, v = .slice A b.length c ∧ BIn w (fun g => B ≤ g) A b.length c b := by
  rcases h.2 with ⟨rfl, h0⟩ | ⟨g, cap, cur, rfl, hb, hg, hnc, hcm, hcs, ht⟩
  · have : b = [] := List.eq_nil_of_length_eq_zero h0
    subst this
    exact ⟨none, 0, rfl, BIn.none _ _⟩
  · refine ⟨some ⟨g, 0, none⟩, cap, rfl, rfl, hnc, hcm, (fun h => by cases h), fun _ => ⟨g, 0, rfl, hb, fun j x hx => ?_⟩⟩
    have := h.cells (g := g) rfl j (.int .u8 x.toNat) (by simp [Lib.byteCells, hx])
    rw [add_off] at this
    exact this
theorem own_lin {w : World} {B : Nat} {v : Value} {n : Nat} {l : List T} {xs : List Value} {Q : Nat → Prop} (h : w.ownsRow B 26 4 v n xs) (hl : l.length = n) (hr : Row w Q l xs) (hq : ∀ g, v.ownBlock = some g → Q g) : ∃ A c, v = .slice A n c ∧ LIn w Q A n c l xs := by
  rcases h.2 with ⟨rfl, rfl⟩ | ⟨g, cap, cur, rfl, hb, hg, hnc, hcm, hcs, ht⟩
  · exact ⟨none, 0, rfl, hl, Nat.le_refl _, Nat.zero_le _, fun _ => ⟨rfl, rfl⟩, fun h => absurd h (by omega), hr⟩
  · refine ⟨some ⟨g, 0, none⟩, cap, rfl, hl, hnc, hcm, (fun h => by cases h), fun _ => ⟨g, 0, rfl, hq g rfl, fun j u hu => ?_⟩, hr⟩
    have := h.cells (g := g) rfl j u hu
    rw [add_off] at this
    exact this
theorem byteCells_one (b : List UInt8) : ∀ u ∈ Lib.byteCells b, u.oneCell' = true := by
  intro u hu
  simp only [Lib.byteCells, List.mem_map] at hu
  obtain ⟨x, _, rfl⟩ := hu
  rfl
theorem byteCells_length (b : List UInt8) : (Lib.byteCells b).length = b.length := by simp [Lib.byteCells]
/-- The cells of bytes that came in, as append takes them. -/
theorem BIn.news {w : World} {Q : Nat → Prop} {a : Addr} {n c : Nat} {b : List UInt8} (h : BIn w Q (some a) n c b) : ∀ j u, (Lib.byteCells b)[j]? = some u → w.cell? (a.add j) = some u := by
  intro j u hu
  simp only [Lib.byteCells, List.getElem?_map, Option.map_eq_some_iff] at hu
  obtain ⟨x, hx, rfl⟩ := hu
  have hj := (List.getElem?_eq_some_iff.1 hx).1
  obtain ⟨g, o, hA, _, hc⟩ := h.cells (by have := h.len; omega)
  cases hA
  rw [add_off]
  exact hc j x hx

/-- The four cells of a value are one cell each. -/
theorem In.one {w : World} {Q : Nat → Prop} {t : T} {c0 c1 c2 c3 : Value} (h : In w Q t (.agg #[c0, c1, c2, c3])) : ∀ u ∈ [c0, c1, c2, c3], u.oneCell' = true := by
  obtain ⟨k, n, b, l⟩ := t
  obtain ⟨A, nb, cb, L, nl, cl, xs, hv, _⟩ := h.open_
  injection hv with hv
  simp only [Array.mk.injEq, List.cons.injEq, and_true] at hv
  obtain ⟨rfl, rfl, rfl, rfl⟩ := hv
  intro u hu
  simp at hu
  rcases hu with rfl | rfl | rfl | rfl <;> rfl
/-- The block that a slice of one value is made of, as append takes it. -/
theorem new_four (w : World) (c0 c1 c2 c3 : Value) (t : TypeId) : ∀ j u, [c0, c1, c2, c3][j]? = some u → (w.alloc (.cells #[c0, c1, c2, c3] t)).cell? ((⟨w.heap.size, 0, none⟩ : Addr).add j) = some u := by
  intro j u hu
  have hb := Blk.new w t [c0, c1, c2, c3]
  rw [add_off, Nat.zero_add]
  exact (hb.cell j).trans hu

theorem grown_refl (w : World) (row : Option Nat) : w.grownBy w row := ⟨rfl, rfl, rfl, Nat.le_refl _, fun _ _ _ => rfl⟩
/-- append of bytes that came in, nil or not, onto a slice of the call's own. -/
theorem wpList_append_bin {w : World} {ops : Array Oper} {rest : List Oper} {o : Oper} {a : Act} {Q : Exit → Act → World → Prop} (hgd : o.guard = none) (s x : Operand)
    (ho : o.op = .call { callee := .builtin .append, args := #[s, x], argTypes := #[23, 23] })
    (base : Nat) (v : Value) (n : Nat) (xs : List Value) (hs : a.eval s = v) (hown : w.ownsRow base 5 1 v n xs)
    (R : Nat → Prop) (A : Option Addr) (m c : Nat) (b : List UInt8) (hx : a.eval x = .slice A m c) (hb : BIn w R A m c b) (hsm : n + m ≤ 1000000000) (hbase : base ≤ w.heap.size)
    (h : ∀ v' w', w'.ownsRow base 5 1 v' (n + m) (xs ++ Lib.byteCells b) → w.grownBy w' v.ownBlock → (v'.ownBlock = v.ownBlock ∨ v'.ownBlock = some w.heap.size) → wpList Tryd.prog ops Q rest (a.put o.dst v') w') : wpList Tryd.prog ops Q (o :: rest) a w := by
  obtain ⟨i0, hi, hz0, hz1, hz2⟩ := info_parts binfo
  cases A with
  | none =>
    obtain ⟨rfl, rfl⟩ := hb.nil rfl
    have hbn : b = [] := List.eq_nil_of_length_eq_zero hb.len
    subst hbn
    exact wpList_append_own_none hgd s x 23 ho base 5 i0 1 Tryd.underlying23 hi v n xs hs hown hx (h v w (by simpa [Lib.byteCells] using hown) (grown_refl _ _) (.inl rfl))
  | some ad =>
    exact wpList_append_new w hgd s x 23 ho base 5 i0 (.int .u8 0) 1 1 Tryd.underlying23 hi hz0 hz1 hz2 rfl (by decide) v n xs hs hown ad m c (Lib.byteCells b) hx (by rw [byteCells_length, hb.len, Nat.mul_one]) hb.news (byteCells_one b) (by unfold maxLen; omega) (by omega) hbase h

/-- The same, at a step of a region that draws its order. -/
theorem step_append_bin {w : World} {ops : Array Oper} {o : Oper} {a : Act} {K : Act → World → Prop} {Q : Exit → Act → World → Prop} {E : Prop} (hgd : o.guard = none) (s x : Operand)
    (ho : o.op = .call { callee := .builtin .append, args := #[s, x], argTypes := #[23, 23] })
    (base : Nat) (v : Value) (n : Nat) (xs : List Value) (hs : a.eval s = v) (hown : w.ownsRow base 5 1 v n xs)
    (R : Nat → Prop) (A : Option Addr) (m c : Nat) (b : List UInt8) (hx : a.eval x = .slice A m c) (hb : BIn w R A m c b) (hsm : n + m ≤ 1000000000) (hbase : base ≤ w.heap.size)
    (h : ∀ v' w', w'.ownsRow base 5 1 v' (n + m) (xs ++ Lib.byteCells b) → w.grownBy w' v.ownBlock → K (a.put o.dst v') w') :
    if Region.wanted o (yielded ops a.tmps) = true then Oper.wp Tryd.prog o a w K Q else E := by
  have hw : Region.wanted o (yielded ops a.tmps) = true := by simp [Region.wanted, hgd]
  rw [if_pos hw]
  obtain ⟨i0, hi, hz0, hz1, hz2⟩ := info_parts binfo
  cases A with
  | none =>
    obtain ⟨rfl, rfl⟩ := hb.nil rfl
    have hbn : b = [] := List.eq_nil_of_length_eq_zero hb.len
    subst hbn
    have hrun := run_append_owned_none (P := Tryd.prog) (w := w) base 23 o.type 5 i0 1 Tryd.underlying23 hi v n xs hown
    unfold Oper.wp execOp
    simp only [ho, resolve, invoke, builtin, Sem.run_bind, Sem.run_pure, Result.andThen_ok, List.map_toArray, List.map_cons, List.map_nil, hs, hx, hrun]
    exact h v w (by simpa [Lib.byteCells] using hown) (grown_refl _ _)
  | some ad =>
    obtain ⟨v', w', hr, h2, h3, _⟩ := run_append_own (P := Tryd.prog) w base 23 o.type 5 i0 (.int .u8 0) 1 1 Tryd.underlying23 hi hz0 hz1 hz2 rfl (by decide) v n xs hown ad m c (Lib.byteCells b) (by rw [byteCells_length, hb.len, Nat.mul_one]) hb.news (byteCells_one b) (by unfold maxLen; omega) (by omega) hbase
    unfold Oper.wp execOp
    simp only [ho, resolve, invoke, builtin, Sem.run_bind, Sem.run_pure, Result.andThen_ok, List.map_toArray, List.map_cons, List.map_nil, hs, hx, hr]
    exact h v' w' h2 h3

mutual
/-- Bounds that every walk needs: numbers of 64 bits, bytes and lists of no more than a million. -/
def T.ok : T → Prop
  | .mk k n b l => (-9223372036854775808 ≤ k ∧ k ≤ 9223372036854775807) ∧ (-9223372036854775808 ≤ n ∧ n ≤ 9223372036854775807) ∧ b.length ≤ 1000000 ∧ l.length ≤ 1000000 ∧ T.okAll l
def T.okAll : List T → Prop
  | [] => True
  | t :: r => t.ok ∧ T.okAll r
end
theorem T.okAll_mem : ∀ {l : List T}, T.okAll l → ∀ t ∈ l, t.ok
  | [], _, t, h => by cases h
  | s :: r, h, t, ht => by
    rw [T.okAll] at h
    rcases List.mem_cons.1 ht with rfl | ht
    · exact h.1
    · exact T.okAll_mem h.2 t ht

end Go.Proofs.YtodpojbgkeecnaaDoor
