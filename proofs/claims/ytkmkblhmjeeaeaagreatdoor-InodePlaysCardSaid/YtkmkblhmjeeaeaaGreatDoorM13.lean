/-
  Appending to slices of the call's own: writes, texts, numbers, bytes. Conditions: the slice is the call's own; lengths below a thousand million.
-/
import Derived.Test.YtkmkblhmjeeaeaaGreatDoorM11
import Derived.Deep.AppendLies
import Derived.Deep.Upon
import Derived.Deep.MidRow
import Derived.Test.YtkmkblhmjeeaeaaGreatDoorM12
import Derived.Deep.RegionHeld3
import Derived.Test.YtkmkblhmjeeaeaaGreatDoorM4
import Derived.Test.YtkmkblhmjeeaeaaGreatDoorM2
section
set_option linter.unusedSimpArgs false
set_option linter.unusedVariables false
set_option maxRecDepth 100000
namespace Go.Proofs.YtkmkblhmjeeaeaaGreatDoor
open Go.RowKit

/-- Below N nothing has turned; blocks of cells of types that T bars, and blocks of X, may have; what is no cells is as it was. -/
structure Kp (N : Nat) (T : TypeId → Prop) (X : List Nat) (w w' : World) : Prop where
  below : Below N w w'
  keep : ∀ g t cs, ¬ T t → g ∉ X → Blk w g t cs → Blk w' g t cs
  others : ∀ (g : Nat) (o : Obj), w.heap[g]? = some o → o.isCells = false → w'.heap[g]? = some o
section
variable {N : Nat} {T : TypeId → Prop} {X : List Nat} {w w' a b c : World}
theorem Kp.refl (N : Nat) (T : TypeId → Prop) (X : List Nat) (w : World) : Kp N T X w w := ⟨Below.refl _ _, fun _ _ _ _ _ h => h, fun _ _ h _ => h⟩
theorem Kp.trans (h : Kp N T X a b) (k : Kp N T X b c) : Kp N T X a c :=
  ⟨h.below.trans k.below, fun g t cs h1 h2 hb => k.keep g t cs h1 h2 (h.keep g t cs h1 h2 hb), fun g o h1 h2 => k.others g o (h.others g o h1 h2) h2⟩
theorem Kp.of_below (hN : N ≤ w.heap.size) (h : Below w.heap.size w w') : Kp N T X w w' :=
  ⟨h.mono hN, fun _ _ _ _ _ hb => hb.below h hb.lt, fun g o h1 _ => (h.block g (Array.getElem?_eq_some_iff.1 h1).1).trans h1⟩
theorem Kp.size (h : Kp N T X w w') : w.heap.size ≤ w'.heap.size := h.below.size
theorem Kp.mono {T' : TypeId → Prop} {Y : List Nat} {M : Nat} (h : Kp N T X w w') (hT : ∀ t, T t → T' t) (hX : ∀ g, g ∈ X → g < w.heap.size → g ∈ Y) (hM : M ≤ N) : Kp M T' Y w w' :=
  ⟨h.below.mono hM, fun g t cs h1 h2 hb => h.keep g t cs (fun e => h1 (hT t e)) (fun hg => h2 (hX g hg hb.lt)) hb, h.others⟩
theorem Kp.set_ {g o : Nat} {u : Value} (hN : N ≤ g) (hg : g ∈ X) : Kp N T X w (w.setCell ⟨g, o, none⟩ u) :=
  ⟨(Below.refl _ _).setCell (p := ⟨g, o, none⟩) hN u, fun k t cs _ h2 hb => hb.far (p := ⟨g, o, none⟩) (fun e => h2 (by rw [e]; exact hg)) u, (KeepsOthers.setCell w _ u).same⟩
theorem Kp.of_grown {e sz n : Nat} {v : Value} {cells : List Value} (ho : w.ownsRow N e sz v n cells) (hg : w.grownBy w' v.ownBlock) (hN : N ≤ w.heap.size) (hT : T e) : Kp N T X w w' :=
  ⟨(Below.refl N w).grown hg hN (fun q hq => (ho.lt q hq).1), fun k t cs h1 _ hb => hb.grown hg (fun q => own_blk_ne ho hb (fun q2 => h1 (by rw [← q2]; exact hT)) q.symm), fun k o h1 h2 => (hg.block k (Array.getElem?_eq_some_iff.1 h1).1 fun q => by
    have := own_cells ho q.symm h1
    rw [this] at h2
    cases h2).trans h1⟩
theorem Bts.kp {A : Nat → Prop} {v : Value} {xs : List B8} (h : Bts A w v xs) (hk : Kp N T X w w') (h1 : ¬ T 5) (h2 : ¬ T 168) (hX : ∀ g, A g → g ∉ X) : Bts A w' v xs := by
  rcases h with h | ⟨g, o, cap, t, cs, e, hA, hn, hb, ht, h3, h4⟩
  · exact .inl h
  · refine .inr ⟨g, o, cap, t, cs, e, hA, hn, hk.keep g t cs ?_ (hX g hA) hb, ht, h3, h4⟩
    rcases hn with rfl | rfl
    · exact h1
    · exact h2
theorem Ns.kp {A : Nat → Prop} {v : Value} {xs : List Nat} (h : Ns A w v xs) (hk : Kp N T X w w') (h1 : ¬ T 3) (hX : ∀ g, A g → g ∉ X) : Ns A w' v xs := by
  rcases h with h | ⟨g, cap, cs, e, hA, hb, ht, h3, h4⟩
  · exact .inl h
  · exact .inr ⟨g, cap, cs, e, hA, hk.keep g _ cs h1 (hX g hA) hb, ht, h3, h4⟩
theorem MapIs.kp {M q : Nat} {F : Nat → Option Hv} (h : MapIs w M q F) (hk : Kp N T X w w') : MapIs w' M q F := by
  obtain ⟨n, D, h1, h2, h3⟩ := h
  obtain ⟨es, clock, h4, h5, h6, h7⟩ := h1
  exact ⟨n, D, ⟨es, clock, hk.others M _ h4 rfl, h5, h6, h7⟩, h2, h3⟩
end

/-- A slice of writes in memory of the call's own, the writes' bytes in blocks that A allows. -/
structure WOwn (A : Nat → Prop) (N : Nat) (w : World) (v : Value) (ws : List (Int × List B8)) : Prop where
  row : ∃ cells : List Value, w.ownsRow N 146 2 v ws.length cells ∧ cells.length = ws.length * 2 ∧ ∀ i p, ws[i]? = some p → cells[i * 2]? = some (.int .i64 p.1) ∧ ∃ u, cells[i * 2 + 1]? = some u ∧ Bts A w u p.2
theorem WOwn.nil (A : Nat → Prop) (N : Nat) (w : World) : WOwn A N w (.slice none 0 0) [] := ⟨[], World.ownsRow_nil _ _ _ _, rfl, fun i p h => by simp at h⟩
theorem WOwn.below {A : Nat → Prop} {N : Nat} {w w' : World} {v : Value} {ws : List (Int × List B8)} (h : WOwn A N w v ws) (hb : Below w.heap.size w w') : WOwn A N w' v ws := by
  obtain ⟨cells, h1, h2, h3⟩ := h
  refine ⟨cells, own_below h1 hb, h2, fun i p hp => ?_⟩
  obtain ⟨c0, u, c1, hu⟩ := h3 i p hp
  exact ⟨c0, u, c1, hu.below hb⟩
theorem ownsRow_set {w : World} {N e s n : Nat} {v : Value} {xs : List Value} (h : w.ownsRow N e s v n xs) {g o : Nat} {u : Value} (hg : v.ownBlock ≠ some g) : (w.setCell ⟨g, o, none⟩ u).ownsRow N e s v n xs := by
  refine ⟨h.1, ?_⟩
  rcases h.2 with h | ⟨b, cap, cur, rfl, h1, h2, h3⟩
  · exact .inl h
  · exact .inr ⟨b, cap, cur, rfl, h1, (Below.heap_setCell w ⟨g, o, none⟩ u b (fun e => hg (by have e : b = g := e; rw [e]; rfl))).trans h2, h3⟩
theorem WOwn.set_ {A : Nat → Prop} {N : Nat} {w : World} {v : Value} {ws : List (Int × List B8)} {g o : Nat} {t : TypeId} {cs : List Value} {u : Value} (h : WOwn A N w v ws) (hb : Blk w g t cs) (ht : t ≠ 146) (h1 : t ≠ 5) (h2 : t ≠ 168) : WOwn A N (w.setCell ⟨g, o, none⟩ u) v ws := by
  obtain ⟨cells, g1, g2, g3⟩ := h
  refine ⟨cells, ownsRow_set g1 (own_blk_ne g1 hb (fun e => ht e.symm)), g2, fun i p hp => ?_⟩
  obtain ⟨c0, x, c1, hu⟩ := g3 i p hp
  refine ⟨c0, x, c1, ?_⟩
  rcases hu with hu | ⟨b, o', cap, t', cs', e, hA, hn, hb', hx, h3, h4⟩
  · exact .inl hu
  · refine .inr ⟨b, o', cap, t', cs', e, hA, hn, hb'.far (fun e => ?_) u, hx, h3, h4⟩
    have e : b = g := e
    subst e
    have := (hb'.same hb).1
    rcases hn with rfl | rfl
    · exact h1 this.symm
    · exact h2 this.symm
theorem WOwn.form {A : Nat → Prop} {N : Nat} {w : World} {v : Value} {ws : List (Int × List B8)} (h : WOwn A N w v ws) : ∃ P q, v = .slice P ws.length q := by
  obtain ⟨cells, h1, h2, h3⟩ := h
  rcases h1.2 with ⟨rfl, hn⟩ | ⟨g, cap, cur, rfl, _⟩
  · exact ⟨none, 0, by rw [hn]⟩
  · exact ⟨_, _, rfl⟩
theorem WOwn.wrs {A : Nat → Prop} {N : Nat} {w : World} {v : Value} {ws : List (Int × List B8)} (h : WOwn A N w v ws) : Wrs (fun g => N ≤ g ∨ A g) w v ws := by
  obtain ⟨cells, h1, h2, h3⟩ := h
  rcases h1.2 with ⟨rfl, hn⟩ | ⟨g, cap, cur, rfl, hg, hb, g1, g2, _, ht⟩
  · exact .inl ⟨rfl, List.eq_nil_of_length_eq_zero hn⟩
  · refine .inr ⟨g, cap, cur.toList, rfl, .inl hg, by simpa [Blk] using hb, g1, g2, fun i p hp => ?_⟩
    obtain ⟨c0, u, c1, hu⟩ := h3 i p hp
    have hi := (List.getElem?_eq_some_iff.1 hp).1
    refine ⟨?_, u, ?_, hu.mono (fun _ h _ => .inr h)⟩
    · rw [← ht, List.getElem?_take] at c0
      split at c0
      · exact c0
      · cases c0
    · rw [← ht, List.getElem?_take] at c1
      split at c1
      · exact c1
      · cases c1
theorem pair_cells (no : Int) (Q : Option Addr) (m k : Nat) : ∀ u ∈ [Value.int .i64 no, .slice Q m k], u.oneCell' = true := by
  intro u hu
  simp only [List.mem_cons, List.not_mem_nil, or_false] at hu
  rcases hu with rfl | rfl <;> rfl
theorem blk_row {w : World} {p : Nat} {t : TypeId} {cs : List Value} (h : Blk w p t cs) : ∀ j u, cs[j]? = some u → w.cell? ((⟨p, 0, none⟩ : Addr).add j) = some u := by
  intro j u hu
  have := World.news_of_block h j u (by simpa using hu)
  exact this
/-- One write more. -/
theorem WOwn.snoc {A : Nat → Prop} {N : Nat} {w' : World} {v : Value} {ws : List (Int × List B8)} {cells : List Value} (hc : cells.length = ws.length * 2) (h3 : ∀ i p, ws[i]? = some p → cells[i * 2]? = some (.int .i64 p.1) ∧ ∃ u, cells[i * 2 + 1]? = some u ∧ Bts A w' u p.2)
    {no : Int} {u : Value} {x : List B8} (hx : Bts A w' u x) (ho : w'.ownsRow N 146 2 v (ws.length + 1) (cells ++ [.int .i64 no, u])) : WOwn A N w' v (ws ++ [(no, x)]) := by
  refine ⟨_, by rw [List.length_append]; exact ho, by simp [hc]; omega, fun i p hp => ?_⟩
  by_cases hi : i < ws.length
  · rw [List.getElem?_append_left hi] at hp
    obtain ⟨c0, y, c1, hu⟩ := h3 i p hp
    exact ⟨by rw [List.getElem?_append_left (by omega)]; exact c0, y, by rw [List.getElem?_append_left (by omega)]; exact c1, hu⟩
  · have hi' : i = ws.length := by
      have := (List.getElem?_eq_some_iff.1 hp).1
      simp at this
      omega
    subst hi'
    simp at hp
    subst hp
    refine ⟨by rw [List.getElem?_append_right (by omega), hc]; simp, u, by rw [List.getElem?_append_right (by omega), hc]; simp, hx⟩
theorem write_info : ∃ i : TypeInfo, Tryz.prog.info? 146 = some i ∧ i.zero = some (.agg #[.int .i64 0, .slice none 0 0]) ∧ i.size = 2 ∧ i.bytes = 32 := by
  obtain ⟨i, h⟩ := info_parts (show (Tryz.prog.info? 146).map (fun i => (i.zero, i.size, i.bytes)) = some (some (.agg #[.int .i64 0, .slice none 0 0]), 2, 32) by kernel_rfl)
  exact ⟨i, h⟩
section
variable {ops : Array Oper} {o : Oper} {a : Act} {K : Act → World → Prop} {Q : Exit → Act → World → Prop} {E : Prop} {A : Nat → Prop} {N : Nat} {w : World} {v : Value} {ws : List (Int × List B8)}
theorem wp_app_write (s x : Operand) (ho : o.op = .call { callee := .builtin .append, args := #[s, x], argTypes := #[85, 85] })
    (hs : a.eval s = v) (hown : WOwn A N w v ws) (p : Nat) (no : Int) (R : Option Addr) (m k : Nat) (hx : a.eval x = .slice (some ⟨p, 0, none⟩) 1 1) (hb : Blk w p 146 [.int .i64 no, .slice R m k]) (y : List B8) (hy : Bts A w (.slice R m k) y) (hl : ws.length ≤ 1000000) (hN : N ≤ w.heap.size)
    (h : ∀ g cap w', WOwn A N w' (.slice (some ⟨g, 0, none⟩) (ws.length + 1) cap) (ws ++ [(no, y)]) → Kp N (· = 146) [] w w' → K (a.put o.dst (.slice (some ⟨g, 0, none⟩) (ws.length + 1) cap)) w') : o.wp Tryz.prog a w K Q := by
  obtain ⟨cells, h1, h2, h3⟩ := hown
  obtain ⟨i0, i1, i2, i3, i4⟩ := write_info
  refine wp_append_lies w s x 85 ho N 146 i0 (.agg #[.int .i64 0, .slice none 0 0]) 2 32 Tryz.underlying85 i1 i2 i3 i4 rfl (by decide) v ws.length cells hs h1 ⟨p, 0, none⟩ 1 1 [.int .i64 no, .slice R m k] hx rfl (blk_row hb) (pair_cells _ _ _ _) (by decide) (by unfold maxLen; omega) (by omega) hN _ rfl ?_
  intro g cap w' g1 g2 _ _
  have hk : Kp N (· = 146) [] w w' := Kp.of_grown h1 g2 hN rfl
  refine h g cap w' (WOwn.snoc h2 (fun i q hq => ?_) (hy.kp hk (by decide) (by decide) (by simp)) g1) hk
  obtain ⟨c0, u, c1, hu⟩ := h3 i q hq
  exact ⟨c0, u, c1, hu.kp hk (by decide) (by decide) (by simp)⟩
theorem step_app_write (hgd : o.guard = none) (s x : Operand) (ho : o.op = .call { callee := .builtin .append, args := #[s, x], argTypes := #[85, 85] })
    (hs : a.eval s = v) (hown : WOwn A N w v ws) (p : Nat) (no : Int) (R : Option Addr) (m k : Nat) (hx : a.eval x = .slice (some ⟨p, 0, none⟩) 1 1) (hb : Blk w p 146 [.int .i64 no, .slice R m k]) (y : List B8) (hy : Bts A w (.slice R m k) y) (hl : ws.length ≤ 1000000) (hN : N ≤ w.heap.size)
    (h : ∀ g cap w', WOwn A N w' (.slice (some ⟨g, 0, none⟩) (ws.length + 1) cap) (ws ++ [(no, y)]) → Kp N (· = 146) [] w w' → K (a.put o.dst (.slice (some ⟨g, 0, none⟩) (ws.length + 1) cap)) w') : if Region.wanted o (yielded ops a.tmps) = true then Oper.wp Tryz.prog o a w K Q else E := by
  have hw : Region.wanted o (yielded ops a.tmps) = true := by simp [Region.wanted, hgd]
  rw [if_pos hw]
  exact wp_app_write s x ho hs hown p no R m k hx hb y hy hl hN h
theorem wpList_app_write {rest : List Oper} (hgd : o.guard = none) (s x : Operand) (ho : o.op = .call { callee := .builtin .append, args := #[s, x], argTypes := #[85, 85] })
    (hs : a.eval s = v) (hown : WOwn A N w v ws) (p : Nat) (no : Int) (R : Option Addr) (m k : Nat) (hx : a.eval x = .slice (some ⟨p, 0, none⟩) 1 1) (hb : Blk w p 146 [.int .i64 no, .slice R m k]) (y : List B8) (hy : Bts A w (.slice R m k) y) (hl : ws.length ≤ 1000000) (hN : N ≤ w.heap.size)
    (h : ∀ g cap w', WOwn A N w' (.slice (some ⟨g, 0, none⟩) (ws.length + 1) cap) (ws ++ [(no, y)]) → Kp N (· = 146) [] w w' → wpList Tryz.prog ops Q rest (a.put o.dst (.slice (some ⟨g, 0, none⟩) (ws.length + 1) cap)) w') : wpList Tryz.prog ops Q (o :: rest) a w :=
  wpList_plain hgd fun _ hK => wp_app_write s x ho hs hown p no R m k hx hb y hy hl hN fun g cap w' h1 h2 => hK _ _ (h g cap w' h1 h2)
end
/-! Texts. -/
theorem text_info : ∃ i : TypeInfo, Tryz.prog.info? 40 = some i ∧ i.zero = some (.slice none 0 0) ∧ i.size = 1 ∧ i.bytes = 24 := by
  obtain ⟨i, h⟩ := info_parts (show (Tryz.prog.info? 40).map (fun i => (i.zero, i.size, i.bytes)) = some (some (.slice none 0 0), 1, 24) by kernel_rfl)
  exact ⟨i, h⟩
theorem OParts.snoc1 {N n : Nat} {w' : World} {X : List (List B8)} {cells : List Value} (hl : X.length = n) (hcl : cells.length = n) {u : Value} {x : List B8} {v : Value}
    (h4 : ∀ (j : Nat) (x : List B8), X[j]? = some x → ∃ u, cells[j]? = some u ∧ Bts (fun _ => True) w' u x)
    (ho : w'.ownsRow N 40 1 v (n + 1) (cells ++ [u])) (h0 : Bts (fun _ => True) w' u x) : OParts N w' v (n + 1) (X ++ [x]) := by
  refine ⟨_, ho, by simp [hcl], by simp [hl], fun j y hy => ?_⟩
  by_cases hj : j < n
  · rw [List.getElem?_append_left (by omega)] at hy
    obtain ⟨u, hu, hb⟩ := h4 j y hy
    exact ⟨u, by rw [List.getElem?_append_left (by omega)]; exact hu, hb⟩
  · have : j = n := by
      have := (List.getElem?_eq_some_iff.1 hy).1
      simp at this
      omega
    subst this
    rw [List.getElem?_append_right (by omega), hl] at hy
    simp at hy
    subst hy
    exact ⟨u, by rw [List.getElem?_append_right (by omega), hcl]; simp, h0⟩
theorem slice_one (R : Option Addr) (m k : Nat) : ∀ u ∈ [Value.slice R m k], u.oneCell' = true := by
  intro u hu
  simp only [List.mem_singleton] at hu
  subst hu
  rfl
section
variable {ops : Array Oper} {o : Oper} {a : Act} {Q : Exit → Act → World → Prop} {N n : Nat} {w : World} {v : Value} {X : List (List B8)}
theorem wpList_app_text {rest : List Oper} (hgd : o.guard = none) (s x : Operand) (ho : o.op = .call { callee := .builtin .append, args := #[s, x], argTypes := #[171, 171] })
    (hs : a.eval s = v) (hown : OParts N w v n X) (p : Nat) (R : Option Addr) (m k : Nat) (hx : a.eval x = .slice (some ⟨p, 0, none⟩) 1 1) (hb : Blk w p 40 [.slice R m k]) (y : List B8) (hy : Bts (fun _ => True) w (.slice R m k) y) (hl : n ≤ 1000000) (hN : N ≤ w.heap.size)
    (h : ∀ g cap w', OParts N w' (.slice (some ⟨g, 0, none⟩) (n + 1) cap) (n + 1) (X ++ [y]) → Kp N (· = 40) [] w w' → wpList Tryz.prog ops Q rest (a.put o.dst (.slice (some ⟨g, 0, none⟩) (n + 1) cap)) w') : wpList Tryz.prog ops Q (o :: rest) a w := by
  obtain ⟨cells, h1, h2, h3, h4⟩ := hown
  obtain ⟨i0, i1, i2, i3, i4⟩ := text_info
  refine wpList_append_lies w hgd s x 171 ho N 40 i0 (.slice none 0 0) 1 24 Tryz.underlying171 i1 i2 i3 i4 rfl (by decide) v n cells hs h1 ⟨p, 0, none⟩ 1 1 [.slice R m k] hx rfl (blk_row hb) (slice_one _ _ _) (by decide) (by unfold maxLen; omega) (by omega) hN _ rfl ?_
  intro g cap w' g1 g2 _ _
  have hk : Kp N (· = 40) [] w w' := Kp.of_grown h1 g2 hN rfl
  refine h g cap w' (OParts.snoc1 h3 h2 (fun j z hz => ?_) g1 (hy.kp hk (by decide) (by decide) (by simp))) hk
  obtain ⟨u, hu, hbt⟩ := h4 j z hz
  exact ⟨u, hu, hbt.kp hk (by decide) (by decide) (by simp)⟩
end
/-! Bytes onto nothing. -/
theorem ibyte_info : ∃ i : TypeInfo, Tryz.prog.info? 5 = some i ∧ i.zero = some (.int .u8 0) ∧ i.size = 1 ∧ i.bytes = 1 := by
  obtain ⟨i, h⟩ := info_parts (show (Tryz.prog.info? 5).map (fun i => (i.zero, i.size, i.bytes)) = some (some (.int .u8 0), 1, 1) by kernel_rfl)
  exact ⟨i, h⟩
section
variable {ops : Array Oper} {o : Oper} {a : Act} {K : Act → World → Prop} {Q : Exit → Act → World → Prop} {E : Prop} {A : Nat → Prop} {N : Nat} {w : World} {P : Option Addr} {n c : Nat} {data : List B8}
/-- 'append(nothing, x..)'. -/
theorem wp_app_bytes (s x : Operand) (ho : o.op = .call { callee := .builtin .append, args := #[s, x], argTypes := #[40, 40] }) (R : Option Addr) (q : Nat)
    (hs : a.eval s = .slice R 0 q) (hR : R = none ∧ q = 0 ∨ ∃ g, R = some ⟨g, 0, none⟩ ∧ N ≤ g ∧ w.ownsRow N 5 1 (.slice R 0 q) 0 []) (hx : a.eval x = .slice P n c) (hb : Bts A w (.slice P n c) data) (hn : n ≤ 1000000) (hN : N ≤ w.heap.size)
    (h : ∀ P' c' w', Bts (fun g => N ≤ g) w' (.slice P' n c') data → (data = [] → P' = R ∧ c' = q) → Kp N (· = 5) [] w w' → (R = none → Below w.heap.size w w') → K (a.put o.dst (.slice P' n c')) w') : o.wp Tryz.prog a w K Q := by
  obtain ⟨i0, i1, i2, i3, i4⟩ := ibyte_info
  obtain ⟨hl, hc⟩ := hb.cells
  by_cases h0 : 0 < n
  · obtain ⟨g, off, rfl, hA, hg, hcell⟩ := hc h0
    have hown : w.ownsRow N 5 1 (.slice R 0 q) 0 [] := by
      rcases hR with ⟨rfl, rfl⟩ | ⟨g, _, _, h⟩
      · exact World.ownsRow_nil _ _ _ _
      · exact h
    refine wp_append_lies w s x 40 ho N 5 i0 (.int .u8 0) 1 1 Tryz.underlying40 i1 i2 i3 i4 rfl (by decide) (.slice R 0 q) 0 [] hs hown ⟨g, off, none⟩ n c (Vb data) hx (by rw [Vb_length, hl, Nat.mul_one]) (fun j u hu => by rw [add_off]; exact hcell j u hu) (Vb_oneCell data) h0 (by unfold maxLen; omega) (by omega) hN _ rfl ?_
    intro g' cap w' g1 g2 _ _
    rw [Nat.zero_add] at g1
    rw [Nat.zero_add]
    rw [List.nil_append] at g1
    have hk : Kp N (· = 5) [] w w' := Kp.of_grown hown g2 hN rfl
    refine h _ _ w' (by rw [← hl]; exact Bts.of_own (by rw [hl]; exact g1)) (fun e => by rw [e] at hl; simp at hl; omega) hk (fun hR0 => ?_)
    subst hR0
    exact (Below.refl _ w).grown g2 (Nat.le_refl _) (fun q hq => by cases hq)
  · obtain rfl : n = 0 := by omega
    have hd : data = [] := List.eq_nil_of_length_eq_zero hl
    have hrun := run_append_nothing (P := Tryz.prog) w 40 40 o.type 5 i0 Tryz.underlying40 i1 R 0 q (Nat.zero_le _) (.slice P 0 c)
      ⟨.inl ⟨_, Tryz.underlying40⟩, fun w' => by cases P <;> simp [Builtin.lenOf], by cases P <;> simp [Builtin.firstCells, loadCells, loadCellsFrom], by cases P <;> simp [Builtin.firstCells, loadCells, loadCellsFrom], by simp, by simp⟩
    unfold Oper.wp execOp
    simp only [ho, resolve, invoke, builtin, Sem.run_bind, Sem.run_pure, Result.andThen_ok, List.map_toArray, List.map_cons, List.map_nil, hs, hx, hrun]
    refine h R q w ?_ (fun _ => ⟨rfl, rfl⟩) (Kp.refl _ _ _ _) (fun _ => Below.refl _ _)
    subst hd
    rcases hR with ⟨rfl, rfl⟩ | ⟨g, rfl, hg, hr⟩
    · exact Bts.empty _ _
    · rcases hr.2 with ⟨e, _⟩ | ⟨g', cap, cur, e, h1, h2, h3, h4, h5, h6⟩
      · cases e
      · cases e
        exact .inr ⟨g, 0, q, 5, cur.toList, rfl, hg, .inl rfl, by simpa [Blk] using h2, by simp [Vb], Nat.zero_le _, h4⟩
theorem step_app_bytes (hgd : o.guard = none) (s x : Operand) (ho : o.op = .call { callee := .builtin .append, args := #[s, x], argTypes := #[40, 40] }) (R : Option Addr) (q : Nat)
    (hs : a.eval s = .slice R 0 q) (hR : R = none ∧ q = 0 ∨ ∃ g, R = some ⟨g, 0, none⟩ ∧ N ≤ g ∧ w.ownsRow N 5 1 (.slice R 0 q) 0 []) (hx : a.eval x = .slice P n c) (hb : Bts A w (.slice P n c) data) (hn : n ≤ 1000000) (hN : N ≤ w.heap.size)
    (h : ∀ P' c' w', Bts (fun g => N ≤ g) w' (.slice P' n c') data → (data = [] → P' = R ∧ c' = q) → Kp N (· = 5) [] w w' → (R = none → Below w.heap.size w w') → K (a.put o.dst (.slice P' n c')) w') : if Region.wanted o (yielded ops a.tmps) = true then Oper.wp Tryz.prog o a w K Q else E := by
  have hw : Region.wanted o (yielded ops a.tmps) = true := by simp [Region.wanted, hgd]
  rw [if_pos hw]
  exact wp_app_bytes s x ho R q hs hR hx hb hn hN h
theorem wpList_app_bytes {rest : List Oper} (hgd : o.guard = none) (s x : Operand) (ho : o.op = .call { callee := .builtin .append, args := #[s, x], argTypes := #[40, 40] }) (R : Option Addr) (q : Nat)
    (hs : a.eval s = .slice R 0 q) (hR : R = none ∧ q = 0 ∨ ∃ g, R = some ⟨g, 0, none⟩ ∧ N ≤ g ∧ w.ownsRow N 5 1 (.slice R 0 q) 0 []) (hx : a.eval x = .slice P n c) (hb : Bts A w (.slice P n c) data) (hn : n ≤ 1000000) (hN : N ≤ w.heap.size)
    (h : ∀ P' c' w', Bts (fun g => N ≤ g) w' (.slice P' n c') data → (data = [] → P' = R ∧ c' = q) → Kp N (· = 5) [] w w' → (R = none → Below w.heap.size w w') → wpList Tryz.prog ops Q rest (a.put o.dst (.slice P' n c')) w') : wpList Tryz.prog ops Q (o :: rest) a w :=
  wpList_plain hgd fun _ hK => wp_app_bytes s x ho R q hs hR hx hb hn hN fun P' c' w' h1 h2 h3 h4 => hK _ _ (h P' c' w' h1 h2 h3 h4)
end
/-! A whole value stored into a block that is known, at a step of a region that draws. -/
theorem wp_store_blk {P : Program} {op : Oper} {a : Act} {w : World} {K : Act → World → Prop} {Q : Exit → Act → World → Prop} (ty : TypeId) (x y : Operand) (ho : op.op = .store ty x y)
    (b o : Nat) (vs : List Value) (hx : a.eval x = .pointer (some ⟨b, o, none⟩)) (hy : a.eval y = .agg vs.toArray) {t : TypeId} {cs : List Value}
    (hb : Blk w b t cs) (hn : o + vs.length ≤ cs.length) (hi : (P.info? ty).map (·.size) = some vs.length) (h1 : ∀ u ∈ vs, u.oneCell' = true)
    (h : ∀ w', Blk w' b t (over cs o vs) → Only [b] w w' → K (a.put op.dst undef) w') : op.wp P a w K Q := by
  refine wp_store_mid ty x y ho b o vs.toArray hx hy (hb.there (by simpa using hn)) (by simpa using hi) (all_oneCell_toArray h1) ?_
  exact h _ (hb.setCells vs o hn) (Only.setCells vs b o (Only.refl _ _) (.inl (by simp)))
theorem step_store_blk {P : Program} {ops : Array Oper} {op : Oper} {a : Act} {w : World} {K : Act → World → Prop} {Q : Exit → Act → World → Prop} {E : Prop} (hgd : op.guard = none) (ty : TypeId) (x y : Operand) (ho : op.op = .store ty x y)
    (b o : Nat) (vs : List Value) (hx : a.eval x = .pointer (some ⟨b, o, none⟩)) (hy : a.eval y = .agg vs.toArray) {t : TypeId} {cs : List Value}
    (hb : Blk w b t cs) (hn : o + vs.length ≤ cs.length) (hi : (P.info? ty).map (·.size) = some vs.length) (h1 : ∀ u ∈ vs, u.oneCell' = true)
    (h : ∀ w', Blk w' b t (over cs o vs) → Only [b] w w' → K (a.put op.dst undef) w') : if Region.wanted op (yielded ops a.tmps) = true then Oper.wp P op a w K Q else E := by
  have hw : Region.wanted op (yielded ops a.tmps) = true := by simp [Region.wanted, hgd]
  rw [if_pos hw]
  exact wp_store_blk ty x y ho b o vs hx hy hb hn hi h1 h
theorem node_cells (k m o g : Int) (P : Option Addr) (n c : Nat) : ∀ u ∈ [Value.int .i64 k, .int .i64 m, .int .i64 o, .int .i64 g, .slice P n c], u.oneCell' = true := by
  intro u hu
  simp only [List.mem_cons, List.not_mem_nil, or_false] at hu
  rcases hu with rfl | rfl | rfl | rfl | rfl <;> rfl
theorem node_size : (Tryz.prog.info? 42).map (·.size) = some 5 := by kernel_rfl
/-- A value of some known form stored into a block that is known: the form is named behind the step alone. -/
theorem wp_store_val {α : Type} {P : Program} {op : Oper} {a : Act} {w : World} {K : Act → World → Prop} {Q : Exit → Act → World → Prop} (ty : TypeId) (x y : Operand) (ho : op.op = .store ty x y)
    (b : Nat) {u : Value} (hx : a.eval x = .pointer (some ⟨b, 0, none⟩)) (hy : a.eval y = u) (φ : α → List Value) (Pr : α → Prop) (hu : ∃ z, u = .agg (φ z).toArray ∧ Pr z) {t : TypeId} {len : Nat} (hb : ∃ cs, Blk w b t cs ∧ cs.length = len) (hlen : ∀ z, (φ z).length = len)
    (hi : (P.info? ty).map (·.size) = some len) (h1 : ∀ z, ∀ v ∈ φ z, v.oneCell' = true)
    (h : ∀ z w', Pr z → Blk w' b t (φ z) → Only [b] w w' → (∀ N, N ≤ b → N ≤ w.heap.size → Kp N (· = t) [] w w') → K (a.put op.dst undef) w') : op.wp P a w K Q := by
  obtain ⟨z, rfl, hz⟩ := hu
  obtain ⟨cs, hk, hc⟩ := hb
  have hl := hlen z
  refine wp_store_blk ty x y ho b 0 (φ z) hx hy hk (by omega) (by rw [hl]; exact hi) (h1 z) fun w' hA hO => h z w' hz ?_ hO fun N h1 h2 => ?_
  · rw [over_whole (by omega)] at hA
    exact hA
  · refine ⟨hO.below h2 (by intro q hq; simp at hq; omega), fun q s ds h3 _ hb => hb.only hO (fun hq => ?_), fun q ob h3 h4 => (hO.block q (Array.getElem?_eq_some_iff.1 h3).1 fun hq => ?_).trans h3⟩
    · have hq : q = b := by simpa using hq
      subst hq
      exact h3 (hb.same hk).1
    · have hq : q = b := by simpa using hq
      subst hq
      rw [blk_cells hk h3] at h4
      cases h4
end Go.Proofs.YtkmkblhmjeeaeaaGreatDoor
end

/-
  taking's closure: so many of the free blocks. Condition: what is owned lies in memory.
-/

section
set_option linter.unusedSimpArgs false
set_option linter.unusedVariables false
set_option maxRecDepth 100000
namespace Go.Proofs.YtkmkblhmjeeaeaaGreatDoor
open Go.RowKit

def nums (xs : List Nat) : List Value := xs.map fun (x : Nat) => Value.int .i64 (x : Int)
theorem nums_length (xs : List Nat) : (nums xs).length = xs.length := by simp [nums]
/-- A slice of numbers in memory of the call's own. -/
def NOwn (N : Nat) (w : World) (v : Value) (xs : List Nat) : Prop := w.ownsRow N 3 1 v xs.length (nums xs)
theorem NOwn.ns {N : Nat} {w : World} {v : Value} {xs : List Nat} (h : NOwn N w v xs) : Ns (fun g => N ≤ g) w v xs := by
  rcases h.2 with ⟨rfl, hn⟩ | ⟨g, cap, cur, rfl, hg, hb, h1, h2, _, ht⟩
  · exact .inl ⟨rfl, List.eq_nil_of_length_eq_zero hn⟩
  · refine .inr ⟨g, cap, cur.toList, rfl, hg, by simpa [Blk] using hb, ?_, h1, h2⟩
    show cur.toList.take xs.length = nums xs
    simpa using ht
theorem int_info : ∃ i : TypeInfo, Tryz.prog.info? 3 = some i ∧ i.zero = some (.int .i64 0) ∧ i.size = 1 ∧ i.bytes = 8 := by
  obtain ⟨i, h⟩ := info_parts (show (Tryz.prog.info? 3).map (fun i => (i.zero, i.size, i.bytes)) = some (some (.int .i64 0), 1, 8) by kernel_rfl)
  exact ⟨i, h⟩
theorem num_one (x : Int) : ∀ u ∈ [Value.int .i64 x], u.oneCell' = true := by
  intro u hu
  simp only [List.mem_singleton] at hu
  subst hu
  rfl
section
variable {ops : Array Oper} {o : Oper} {a : Act} {Q : Exit → Act → World → Prop} {N : Nat} {w : World} {v : Value} {xs : List Nat}
theorem wpList_app_num {rest : List Oper} (hgd : o.guard = none) (s x : Operand) (ho : o.op = .call { callee := .builtin .append, args := #[s, x], argTypes := #[60, 60] })
    (hs : a.eval s = v) (hown : NOwn N w v xs) (p : Nat) (y : Nat) (hx : a.eval x = .slice (some ⟨p, 0, none⟩) 1 1) (hb : Blk w p 3 [.int .i64 y]) (hl : xs.length ≤ 1000000) (hN : N ≤ w.heap.size)
    (h : ∀ g cap w', NOwn N w' (.slice (some ⟨g, 0, none⟩) (xs.length + 1) cap) (xs ++ [y]) → w.grownBy w' v.ownBlock → wpList Tryz.prog ops Q rest (a.put o.dst (.slice (some ⟨g, 0, none⟩) (xs.length + 1) cap)) w') : wpList Tryz.prog ops Q (o :: rest) a w := by
  obtain ⟨i0, i1, i2, i3, i4⟩ := int_info
  refine wpList_append_lies w hgd s x 60 ho N 3 i0 (.int .i64 0) 1 8 Tryz.underlying60 i1 i2 i3 i4 rfl (by decide) v xs.length (nums xs) hs hown ⟨p, 0, none⟩ 1 1 [.int .i64 y] hx rfl (blk_row hb) (num_one _) (by decide) (by unfold maxLen; omega) (by omega) hN _ rfl ?_
  intro g cap w' g1 g2 _ _
  refine h g cap w' ?_ g2
  unfold NOwn
  rw [List.length_append]
  have : nums (xs ++ [y]) = nums xs ++ [.int .i64 (y : Int)] := by simp [nums]
  rw [this]
  exact g1
end

/-- The blocks from one on that aren't owned. -/
def freeFrom (ow : List Bool) (i : Nat) : List Nat := ((List.range ow.length).drop i).filter fun j => ow[j]? == some false
theorem freeFrom_end {ow : List Bool} {i : Nat} (h : ow.length ≤ i) : freeFrom ow i = [] := by
  unfold freeFrom
  rw [List.drop_eq_nil_of_le (by simpa using h)]
  rfl
theorem freeFrom_step {ow : List Bool} {i : Nat} (h : i < ow.length) : freeFrom ow i = (if ow[i]? = some false then [i] else []) ++ freeFrom ow (i + 1) := by
  unfold freeFrom
  rw [List.drop_eq_getElem_cons (by simpa using h), List.filter_cons, List.getElem_range]
  by_cases hi : ow[i]? = some false
  · simp [hi]
  · rw [if_neg (by simpa using hi), if_neg hi]
    rfl
def bools (ow : List Bool) : List Value := ow.map Value.bool
theorem bools_length (ow : List Bool) : (bools ow).length = ow.length := by simp [bools]
theorem bools_at {ow : List Bool} {i : Nat} {b : Bool} (h : ow[i]? = some b) : (bools ow)[i]? = some (.bool b) := by simp [bools, h]
/-- What the closure has captured: these blocks are left to take. -/
def TakeIs (w : World) (p q K : Nat) (fr : List Nat) : Prop :=
  ∃ g i ow, Blk w p 3 [.int .i64 (i : Nat)] ∧ Blk w q 69 [.slice (some ⟨g, 0, none⟩) K K] ∧ Blk w g 4 (bools ow) ∧ ow.length = K ∧ i ≤ K ∧ fr = freeFrom ow i
/-- What is left as it was by a take. -/
def TakePost (p q K : Nat) (fr : List Nat) (n : Nat) (w : World) (e : Ending) (w' : World) : Prop :=
  (if n ≤ fr.length then ∃ v, e = .returned (.tuple #[v, .int .i64 0]) ∧ Ns (fun g => w.heap.size ≤ g) w' v (fr.take n) ∧ TakeIs w' p q K (fr.drop n) else e = .returned (.tuple #[.slice none 0 0, .int .i64 6])) ∧ Only [p] w w'
theorem TakePost.yes {p q K n : Nat} {fr : List Nat} {w w' : World} {v : Value} (h : n ≤ fr.length) (hv : Ns (fun g => w.heap.size ≤ g) w' v (fr.take n)) (ht : TakeIs w' p q K (fr.drop n)) (ho : Only [p] w w') : TakePost p q K fr n w (.returned (.tuple #[v, .int .i64 0])) w' :=
  ⟨by rw [if_pos h]; exact ⟨v, rfl, hv, ht⟩, ho⟩
theorem TakePost.no {p q K n : Nat} {fr : List Nat} {w w' : World} (h : fr.length < n) (ho : Only [p] w w') : TakePost p q K fr n w (.returned (.tuple #[.slice none 0 0, .int .i64 6])) w' :=
  ⟨by rw [if_neg (by omega)], ho⟩
theorem Only.grow_own {S : List Nat} {a w w' : World} {e sz n : Nat} {v : Value} {cells : List Value} {N : Nat} (h : Only S a w) (ho : w.ownsRow N e sz v n cells) (hg : w.grownBy w' v.ownBlock) (hN : a.heap.size ≤ N) : Only S a w' :=
  ⟨hg.os.trans h.os, hg.tape.trans h.tape, hg.output.trans h.output, Nat.le_trans h.size hg.size, fun k hk hS => (hg.block k (Nat.lt_of_lt_of_le hk h.size) (fun e => by have := (ho.lt k e.symm).1; omega)).trans (h.block k hk hS)⟩

set_option maxRecDepth 100000 in
set_option maxHeartbeats 4000000 in
theorem take_any (w : World) (p q K : Nat) (fr : List Nat) (n : Nat) (ht : TakeIs w p q K fr) (hn : n ≤ 1000000) (hK : K ≤ 1000000) :
    Calls Tryz.prog 84 #[.int .i64 n, .pointer (some ⟨p, 0, none⟩), .pointer (some ⟨q, 0, none⟩)] w (TakePost p q K fr n w) := by
  obtain ⟨g, i0, ow, hp, hq, hg, hol, hi0, hfr⟩ := ht
  have hpl := hp.lt
  have hqp : q ≠ p := hq.ne_ hp (by decide)
  have hgp : g ≠ p := hg.ne_ hp (by decide)
  have H0 := Lib.hid (And.intro hp (And.intro hq (And.intro hg (And.intro hol hfr))))
  clear hp hq hg hol hfr
  go_enter Tryz.func84, Tryz.ntmps84
  go_wp2_with fail
  go_loopw [6] (fun lv wr => ∃ (i : Nat) (got : List Nat), NOwn w.heap.size wr lv got ∧ got.length ≤ n ∧ Blk wr p 3 [.int .i64 (i : Nat)] ∧ i ≤ K ∧ Hid (fr = got ++ freeFrom ow i) ∧ Only [p] w wr)
    (fun _ wr => K - (intOf ((wr.cell? ⟨p, 0, none⟩).getD undef)).toNat)
  case atStart => exact ⟨i0, [], World.ownsRow_nil _ _ _ _, Nat.zero_le _, H0.out.1, hi0, Lib.hid (by simpa using H0.out.2.2.2.2), Only.refl _ _⟩
  case round =>
    obtain ⟨i, got, hown, hgn, hpi, hi, hf, ho⟩ := hrel
    have hqb := H0.out.2.1.only ho (by simpa using hqp)
    have hgb := H0.out.2.2.1.only ho (by simpa using hgp)
    have hol := H0.out.2.2.2.1
    have cp : wr.cell? ⟨p, 0, none⟩ = some (.int .i64 (i : Nat)) := hpi.cell 0
    have fp := hpi.frozen 0
    have cq : wr.cell? ⟨q, 0, none⟩ = some (.slice (some ⟨g, 0, none⟩) K K) := hqb.cell 0
    obtain ⟨P, cc, rfl⟩ : ∃ P cc, u6 = .slice P got.length cc := by
      rcases hown.2 with ⟨rfl, hz⟩ | ⟨g', cap, cur, rfl, _⟩
      · exact ⟨none, 0, by rw [hz]⟩
      · exact ⟨_, _, rfl⟩
    obtain ⟨m, hm⟩ : ∃ m, got.length = m := ⟨_, rfl⟩
    have HO := Lib.hid (And.intro hown (And.intro hpi (And.intro ho (And.intro hm (And.intro hqb hgb)))))
    rw [hm] at hgn ⊢
    clear hown hpi ho hm hqb hgb
    by_cases hlt : m < n
    · by_cases hik : i = K
      · have HP : Hid (fr.length < n) := Lib.hid (by rw [hf.out, freeFrom_end (by omega), List.append_nil, HO.out.2.2.2.1]; exact hlt)
        have HE := Lib.hid hik
        have q1 : ((i : Int) == (K : Int)) = true := by rw [hik]; simp
        clear hik hol
        go_wp2_with fail
        go_ret2
        exact TakePost.no HP.out HO.out.2.2.1
      · have q1 : ((i : Int) == (K : Int)) = false := by rw [beq_eq_false_iff_ne]; omega
        have hiK : i < K := by omega
        obtain ⟨b, hb⟩ : ∃ b, ow[i]? = some b := ⟨_, List.getElem?_eq_getElem (by omega)⟩
        have cg : wr.cell? ⟨g, i, none⟩ = some (.bool b) := by rw [HO.out.2.2.2.2.2.cell, bools_at hb]
        have hstep := freeFrom_step (ow := ow) (i := i) (by omega)
        rw [hb] at hstep
        have HB := Lib.hid hstep
        clear hik hol hb hstep
        cases b with
        | true =>
          go_wp2_with fail
          go_roundw
          case rel =>
            refine ⟨i + 1, got, ?_, by rw [HO.out.2.2.2.1]; omega, ?_, by omega, Lib.hid (by rw [hf.out, HB.out]; simp), HO.out.2.2.1.setCell (.inl (by simp)) _⟩
            · have h1 := HO.out.1
              rw [← HO.out.2.2.2.1]
              exact ownsRow_set h1 (fun e => by have := (h1.lt p e).1; omega)
            · exact HO.out.2.1.set_ 0 (.int .i64 ((i + 1 : Nat) : Int))
          case measure =>
            have e1 : (wr.setCell ⟨p, 0, none⟩ (.int .i64 ((i : Int) + 1))).cell? ⟨p, 0, none⟩ = some (.int .i64 ((i : Int) + 1)) := (HO.out.2.1.set_ 0 (.int .i64 ((i : Int) + 1))).cell 0
            rw [e1, cp]
            simp [intOf]; omega
        | false =>
          have hb1 := new_below wr (.cells #[.int .i64 (i : Int)] 3)
          have hk1 := Blk.new wr 3 [.int .i64 (i : Int)]
          have H1 := Lib.hid (And.intro (own_below HO.out.1 hb1) (And.intro hk1 (And.intro (HO.out.2.2.1.alloc (.cells #[.int .i64 (i : Int)] 3)) (HO.out.2.1.below hb1 HO.out.2.1.lt))))
          have hsz := HO.out.2.2.1.size
          clear hb1 hk1
          go_wp2_with (at_builtin; refine wpList_app_num rfl (.tmp 24) (.tmp 26) rfl (show _ = Value.slice P got.length cc by rw [HO.out.2.2.2.1]; rfl) H1.out.1 wr.heap.size i rfl H1.out.2.1 (by rw [HO.out.2.2.2.1]; omega) (by simp; omega) ?_; intro g5 cap5 w5 h5 hg5; have H5 := Lib.hid (And.intro h5 (And.intro (H1.out.2.2.1.grow_own H1.out.1 hg5 (Nat.le_refl _)) (H1.out.2.2.2.grown hg5 (fun e => by have := (World.ownsRow.lt H1.out.1 p e.symm).1; omega)))); have cp5 : w5.cell? ⟨p, 0, none⟩ = some (.int .i64 (i : Nat)) := H5.out.2.2.cell 0; have fp5 := H5.out.2.2.frozen 0; clear h5 hg5)
          rw [HO.out.2.2.2.1]
          go_roundw
          case rel =>
            refine ⟨i + 1, got ++ [i], ?_, by rw [List.length_append, HO.out.2.2.2.1]; simp; omega, ?_, by omega, Lib.hid (by rw [hf.out, HB.out]; simp), H5.out.2.1.setCell (.inl (by simp)) _⟩
            · have h1 := H5.out.1
              have e1 : (got ++ [i]).length = m + 1 := by rw [List.length_append, HO.out.2.2.2.1]; rfl
              rw [HO.out.2.2.2.1] at h1
              exact ownsRow_set h1 (fun e => by have := (World.ownsRow.lt h1 p e).1; omega)
            · exact H5.out.2.2.set_ 0 (.int .i64 ((i + 1 : Nat) : Int))
          case measure =>
            have e1 : (w5.setCell ⟨p, 0, none⟩ (.int .i64 ((i : Int) + 1))).cell? ⟨p, 0, none⟩ = some (.int .i64 ((i : Int) + 1)) := (H5.out.2.2.set_ 0 (.int .i64 ((i : Int) + 1))).cell 0
            rw [e1, cp]
            simp [intOf]; omega
    · obtain rfl : m = n := by omega
      have HP : Hid (m ≤ fr.length ∧ fr.take m = got ∧ fr.drop m = freeFrom ow i) := Lib.hid (by
        rw [hf.out, ← HO.out.2.2.2.1]
        simp)
      go_wp2_with fail
      go_ret2
      have hns := HO.out.1.ns
      rw [HO.out.2.2.2.1] at hns
      refine TakePost.yes HP.out.1 (by rw [HP.out.2.1]; exact hns) ⟨g, i, ow, HO.out.2.1, HO.out.2.2.2.2.1, HO.out.2.2.2.2.2, hol, hi, HP.out.2.2⟩ HO.out.2.2.1
end Go.Proofs.YtkmkblhmjeeaeaaGreatDoor
end

/-
  taking: what takes so many of the blocks that nodes leave free. Conditions: the log is at rest; the nodes lie in a map.
-/

section
set_option linter.unusedSimpArgs false
set_option linter.unusedVariables false
set_option maxRecDepth 100000
namespace Go.Proofs.YtkmkblhmjeeaeaaGreatDoor
open Go.RowKit Go.Maps

/-- Block M is a map that reads as a table of nodes. -/
structure TabIn (A : Nat → Prop) (w : World) (M c : Nat) (f : Tab) : Prop where
  map : ∃ F, MapIs w M c F ∧ ∀ i, match f i with | none => F i = none | some h => ∃ x, F i = some x ∧ HIn A w x h
section
variable {A : Nat → Prop} {w w' : World} {M c : Nat} {f : Tab}
theorem TabIn.below (h : TabIn A w M c f) (hs : Below w.heap.size w w') : TabIn A w' M c f := by
  obtain ⟨F, h1, h2⟩ := h
  refine ⟨F, h1.below hs, fun i => ?_⟩
  have := h2 i
  cases hf : f i with
  | none => rw [hf] at this; exact this
  | some x =>
    rw [hf] at this
    obtain ⟨y, h3, h4⟩ := this
    exact ⟨y, h3, h4.below hs⟩
theorem TabIn.stp {B : Nat} {X : List Nat} (h : TabIn A w M c f) (hs : Stp B X w w') (hX : ∀ g, A g → g ∉ X) : TabIn A w' M c f := by
  obtain ⟨F, h1, h2⟩ := h
  refine ⟨F, h1.stp hs, fun i => ?_⟩
  have := h2 i
  cases hf : f i with
  | none => rw [hf] at this; exact this
  | some x =>
    rw [hf] at this
    obtain ⟨y, h3, h4⟩ := this
    exact ⟨y, h3, h4.stp hs hX⟩
theorem TabIn.lt (h : TabIn A w M c f) : M < w.heap.size := by
  obtain ⟨F, h1, h2⟩ := h
  exact h1.lt
theorem TabIn.mono {A' : Nat → Prop} {c' : Nat} (h : TabIn A w M c f) (hA : ∀ g, A g → g < w.heap.size → A' g) (hc : c ≤ c') : TabIn A' w M c' f := by
  obtain ⟨F, h1, h2⟩ := h
  refine ⟨F, h1.mono hc, fun i => ?_⟩
  have := h2 i
  cases hf : f i with
  | none => rw [hf] at this; exact this
  | some x =>
    rw [hf] at this
    obtain ⟨y, h3, h4⟩ := this
    exact ⟨y, h3, h4.mono hA⟩
end
theorem TabIn.some_ {A : Nat → Prop} {w : World} {F : Nat → Option Hv} {f : Tab} (h : ∀ i, match f i with | none => F i = none | some h => ∃ x, F i = some x ∧ HIn A w x h) {i : Nat} {x : Hv} (hx : F i = some x) : ∃ h, f i = some h ∧ HIn A w x h := by
  have := h i
  cases hf : f i with
  | none => rw [hf] at this; rw [hx] at this; cases this
  | some y =>
    rw [hf] at this
    obtain ⟨z, h1, h2⟩ := this
    rw [hx] at h1
    cases h1
    exact ⟨y, rfl, h2⟩

/-- Is a block one of the nodes' that have come already? -/
def cameB (f : Tab) (N : Nat) (left : Lit → Bool) (j : Nat) : Bool := (List.range N).any fun i => match f i with
  | some h => !left (.int .i64 (i : Int)) && h.bl.contains j
  | none => false
theorem came_iff {f : Tab} {N : Nat} {left : Lit → Bool} {j : Nat} : cameB f N left j = true ↔ ∃ i h, i < N ∧ f i = some h ∧ left (.int .i64 (i : Int)) = false ∧ j ∈ h.bl := by
  unfold cameB
  rw [List.any_eq_true]
  constructor
  · rintro ⟨i, hi, h⟩
    cases hf : f i with
    | none => rw [hf] at h; cases h
    | some x =>
      rw [hf] at h
      simp only [Bool.and_eq_true, Bool.not_eq_true'] at h
      exact ⟨i, x, List.mem_range.1 hi, hf, h.1, by simpa using h.2⟩
  · rintro ⟨i, h, hi, hf, hl, hj⟩
    exact ⟨i, List.mem_range.2 hi, by rw [hf]; simp only [hl]; simpa using hj⟩
theorem came_all {f : Tab} {N : Nat} {left : Lit → Bool} (hl : ∀ k, left k = false) (j : Nat) : cameB f N left j = ownB f N j := by
  unfold cameB ownB
  congr 1
  funext i
  cases f i with
  | none => rfl
  | some h => simp [hl]
theorem came_none {f : Tab} {N : Nat} {left : Lit → Bool} (hl : ∀ (i : Nat) h, f i = some h → left (.int .i64 (i : Int)) = true) (j : Nat) : cameB f N left j = false := by
  cases hc : cameB f N left j with
  | false => rfl
  | true =>
    obtain ⟨i, h, _, hf, hn, _⟩ := came_iff.1 hc
    rw [hl i h hf] at hn
    cases hn
theorem came_step {f : Tab} {N : Nat} {left : Lit → Bool} {i : Nat} {h : Hd} (hi : i < N) (hf : f i = some h) (j : Nat) : cameB f N (fun z => left z && !z.sameKey (.int .i64 (i : Int))) j = (cameB f N left j || h.bl.contains j) := by
  rw [Bool.eq_iff_iff, Bool.or_eq_true, came_iff, came_iff]
  constructor
  · rintro ⟨k, x, hk, hfk, hl, hj⟩
    by_cases hki : k = i
    · subst hki
      rw [hf] at hfk
      cases hfk
      exact .inr (by simpa using hj)
    · left
      refine ⟨k, x, hk, hfk, ?_, hj⟩
      have : (Lit.int .i64 (k : Int)).sameKey (.int .i64 (i : Int)) = false := sameKey_ne (lit_ne (by omega))
      simpa [this] using hl
  · rintro (⟨k, x, hk, hfk, hl, hj⟩ | hj)
    · exact ⟨k, x, hk, hfk, by simp [hl], hj⟩
    · exact ⟨i, h, hi, hf, by simp [Lit.sameKey], by simpa using hj⟩
theorem free_frees {f : Tab} {N K : Nat} {ow : List Bool} (hl : ow.length = K) (h : ∀ j, j < K → ow[j]? = some (ownB f N j)) : freeFrom ow 0 = frees f N K := by
  unfold freeFrom frees
  rw [List.drop_zero, hl]
  apply List.filter_congr
  intro j hj
  rw [h j (List.mem_range.1 hj)]
  cases ownB f N j <;> rfl

/-- Where the range over the nodes stands. -/
def TkAt (A : Nat → Prop) (w : World) (b0 g q r M c K : Nat) (D : DataW Hv) (left : Lit → Bool) (cnt n : Nat) (ow : List Bool) (wr : World) : Prop :=
  wr.ranges Tryz.prog 3 RH M r n D left cnt ∧ Blk wr q 69 [.slice (some ⟨g, 0, none⟩) K K] ∧ Blk wr g 4 (bools ow) ∧ ow.length = K ∧ Below w.heap.size w wr
theorem TkAt.alloc {A : Nat → Prop} {w : World} {b0 g q r M c K : Nat} {D : DataW Hv} {left : Lit → Bool} {cnt n : Nat} {ow : List Bool} {wr : World} (h : TkAt A w b0 g q r M c K D left cnt n ow wr) (o : Obj) : TkAt A w b0 g q r M c K D left cnt n ow (wr.alloc o) := by
  obtain ⟨h1, h2, h3, h4, h5⟩ := h
  exact ⟨h1.alloc o, h2.alloc o, h3.alloc o, h4, h5.trans ((new_below wr o).mono h5.size)⟩
theorem TkAt.set_ {A : Nat → Prop} {w : World} {b0 g q r M c K : Nat} {D : DataW Hv} {left : Lit → Bool} {cnt n : Nat} {ow : List Bool} {wr : World} (h : TkAt A w b0 g q r M c K D left cnt n ow wr) (hg : w.heap.size ≤ g) (j : Nat) (b : Bool) : TkAt A w b0 g q r M c K D left cnt n (ow.set j b) (wr.setCell ⟨g, j, none⟩ (.bool b)) := by
  obtain ⟨h1, h2, h3, h4, h5⟩ := h
  have hgr : wr.grownBy (wr.setCell ⟨g, j, none⟩ (.bool b)) (some g) := ⟨rfl, rfl, rfl, by simp, fun k hk hne => Below.heap_setCell wr ⟨g, j, none⟩ _ k (fun e => hne (by rw [e]))⟩
  have hgM : some M ≠ some g := by
    intro e
    cases e
    obtain ⟨es, cl, hb, _⟩ := h1.owns
    unfold Blk at h3
    rw [h3] at hb
    cases hb
  have hgr' : some r ≠ some g := by
    intro e
    cases e
    obtain ⟨es, clock, since, seen, c0, hb, F, hs, hD, hr, rest⟩ := h1
    unfold Blk at h3
    rw [h3] at hr
    cases hr
  refine ⟨h1.kept hgr hgM hgr', h2.far (fun e => ?_) _, ?_, by simp [h4], h5.setCell (p := ⟨g, j, none⟩) hg _⟩
  · have e : q = g := e
    subst e
    exact absurd (h2.same h3).1 (by decide)
  · have := h3.set_ j (.bool b)
    unfold bools at this ⊢
    rw [List.map_set]
    exact this
theorem bool_info : (Tryz.prog.info? 4).map (fun i => (i.zero, i.size, i.bytes)) = some (some (.bool false), 1, 1) := by kernel_rfl
theorem made_bools (n : Nat) : madeCells #[.bool false] n = (bools (List.replicate n false)).toArray := by
  apply Array.toList_inj.1
  rw [toList_madeCells_one]
  simp [bools]
theorem make_bools (w : World) (n : Nat) (h1 : n ≤ 1000000) : (Instr.makeSlice 69 (.int .i64 (n : Int)) (.int .i64 (n : Int))).run Tryz.prog w = .ok (.slice (some ⟨w.heap.size, 0, none⟩) n n) (w.alloc (.cells (bools (List.replicate n false)).toArray 4)) := by
  obtain ⟨i0, hi, hz0, hz1, hz2⟩ := info_parts bool_info
  have := run_make (P := Tryz.prog) w 69 4 i0 (.bool false) (by kernel_rfl) hi hz0 .i64 .i64 n n (by omega) (Int.le_refl _) (by rw [hz2]; omega) (by omega)
  rw [this, hz1, Nat.mul_one, ← made_bools]
  rfl
/-- A step of the range over the nodes. -/
theorem wp_next_nodes {w : World} {ops : Array Oper} {rest : List Oper} {o : Oper} {a : Act} {Q : Exit → Act → World → Prop} {A : Nat → Prop} {w0 : World} {b0 g q r M c K : Nat} {D : DataW Hv} {left : Lit → Bool} {cnt n : Nat} {ow : List Bool} {F : Nat → Option Hv} {f : Tab} {N : Nat}
    (hg : o.guard = none) (it : Operand) (hop : o.op = Op.next it false) (hit : a.eval it = .pointer (some ⟨r, 0, none⟩)) (h : TkAt A w0 b0 g q r M c K D left cnt n ow w) (hD : Reads D F) (hF : ∀ i, match f i with | none => F i = none | some h => ∃ x, F i = some x ∧ HIn A w0 x h) (hw : Wf f N K) (hr : w0.heap.size ≤ r)
    (hDone : (∀ kl, left kl = false) → wpList Tryz.prog ops Q rest (a.put o.dst (.tuple #[.bool false])) w)
    (hMore : ∀ (i : Nat) (x : Hv) (hd : Hd) (w' : World) (cnt' : Nat), i < N → f i = some hd → HIn A w0 x hd → TkAt A w0 b0 g q r M c K D (fun z => left z && !z.sameKey (.int .i64 (i : Int))) cnt' n ow w' → cnt' < cnt → (Instr.entry (.pointer (some ⟨r, 0, none⟩))).run Tryz.prog w' = .ok (.tuple #[.int .i64 (i : Int), hval x]) w' → w'.rangeLeft M r < w.rangeLeft M r → wpList Tryz.prog ops Q rest (a.put o.dst (.tuple #[.bool true, .int .i64 (i : Int), hval x])) w') :
    wpList Tryz.prog ops Q (o :: rest) a w := by
  obtain ⟨h1, h2, h3, h4, h5⟩ := h
  refine wpList_next_ranges w hg it hop 3 ikey RH (Value.int .i64) hval (fun key kl hk => by obtain ⟨x, e, _⟩ := Maps.keyOf_int_inv Tryz.underlying3 hk; exact ⟨x, e⟩) (fun v y hv => by obtain ⟨x, e, _⟩ := RH_inv hv; exact ⟨x, e⟩) M r n D left cnt hit h1 (fun _ hl => hDone hl) ?_
  intro x z kl y w' cnt' hkey hlk hv hat hrg hlt hgr hsz hen
  obtain ⟨x', ex, rfl, hwf⟩ := Maps.keyOf_int_inv Tryz.underlying3 hkey
  cases ex
  obtain ⟨z', ez, hy⟩ := RH_inv hv
  have hzz : z' = z := by
    obtain ⟨k1, k2, k3, k4, k5, k6, k7, k8, k9, k10⟩ := z
    obtain ⟨j1, j2, j3, j4, j5, j6, j7, j8, j9, j10⟩ := z'
    simp only [hval, Value.agg.injEq] at ez
    simp at ez
    obtain ⟨rfl, rfl, rfl, rfl, ⟨rfl, rfl, rfl⟩, rfl, rfl, rfl⟩ := ez
    rfl
  subst hzz
  have hhas : Maps.has D (.int .i64 x) = true := has_true_of_atKey hat
  obtain ⟨i, rfl, v, hFi⟩ := (hD.has x).1 hhas
  have hvz : v = z' := by
    have e1 := hD.at_ i v (.held v) hFi
    have e2 := hat (.held v)
    rw [e1, hy] at e2
    cases e2
    rfl
  subst hvz
  obtain ⟨hd, hfi, hin⟩ := TabIn.some_ hF hFi
  have hiN : i < N := by
    rcases Nat.lt_or_ge i N with h | h
    · exact h
    · rw [hw.out i h] at hfi
      cases hfi
  have hne : ∀ {b : Nat} {t : TypeId} {cs : List Value}, Blk w b t cs → Blk w' b t cs := fun {b t cs} hb => hb.grown hgr (fun e => by
    cases e
    obtain ⟨es, clock, since, seen, c0, hb', F', hs, hD', hr', rest'⟩ := h1
    unfold Blk at hb
    rw [hb] at hr'
    cases hr')
  refine hMore i v hd w' cnt' hiN hfi hin ⟨hrg, hne h2, hne h3, h4, h5.grown hgr h5.size (fun q hq => by cases hq; exact hr)⟩ hlt hen (by rw [hrg.left_eq, h1.left_eq]; exact hlt)

/-- The blocks that have come so far. -/
def OwAt (f : Tab) (N K : Nat) (left : Lit → Bool) (ow : List Bool) : Prop := ∀ j, j < K → ow[j]? = some (cameB f N left j)

theorem tk_start {w w2 : World} (K : Nat) (h : Below w.heap.size w w2) : Below w.heap.size w ((w2.alloc (.cells (bools (List.replicate K false)).toArray 4)).alloc (.cells #[.slice (some ⟨w2.heap.size, 0, none⟩) K K] 69)) ∧
    Blk ((w2.alloc (.cells (bools (List.replicate K false)).toArray 4)).alloc (.cells #[.slice (some ⟨w2.heap.size, 0, none⟩) K K] 69)) w2.heap.size 4 (bools (List.replicate K false)) ∧
    Blk ((w2.alloc (.cells (bools (List.replicate K false)).toArray 4)).alloc (.cells #[.slice (some ⟨w2.heap.size, 0, none⟩) K K] 69)) (w2.heap.size + 1) 69 [.slice (some ⟨w2.heap.size, 0, none⟩) K K] := by
  refine ⟨below_of h ((new_below w2 _).trans ((new_below _ _).mono (by simp))), (Blk.new w2 4 (bools (List.replicate K false))).alloc _, ?_⟩
  have := Blk.new (w2.alloc (.cells (bools (List.replicate K false)).toArray 4)) 69 [.slice (some ⟨w2.heap.size, 0, none⟩) K K]
  rwa [World.size_alloc] at this
theorem tk_ranged {A : Nat → Prop} {w W w4 : World} {g q M c nn K : Nat} {D : DataW Hv} {r : Nat} (h : Below w.heap.size w W ∧ Blk W g 4 (bools (List.replicate K false)) ∧ Blk W q 69 [.slice (some ⟨g, 0, none⟩) K K]) (hr : w4.ranges Tryz.prog 3 RH M r nn D (Maps.has D) (Maps.size D)) (hg : W.grownBy w4 none) :
    TkAt A w 0 g q r M c K D (Maps.has D) (Maps.size D) nn (List.replicate K false) w4 :=
  ⟨hr, h.2.2.grown hg (by simp), h.2.1.grown hg (by simp), by simp, h.1.grown hg h.1.size (fun q hq => by cases hq)⟩
/-- Where the loop over the nodes stands. -/
def TkLoop (A : Nat → Prop) (w : World) (g q r M c K N nn : Nat) (D : DataW Hv) (f : Tab) (wr : World) : Prop := ∃ left cnt ow, TkAt A w 0 g q r M c K D left cnt nn ow wr ∧ OwAt f N K left ow
/-- Where the loop over one node's blocks stands. -/
def TkIn (A : Nat → Prop) (w : World) (g q r M c K N nn : Nat) (D : DataW Hv) (f : Tab) (left left' : Lit → Bool) (cnt : Nat) (hd : Hd) (t : Nat) (wr : World) : Prop :=
  ∃ ow, TkAt A w 0 g q r M c K D left' cnt nn ow wr ∧ ∀ j, j < K → ow[j]? = some (cameB f N left j || (hd.bl.take t).contains j)
theorem set_came {ow : List Bool} {K : Nat} {b : Nat → Bool} {l : List Nat} {t x : Nat} (hl : ow.length = K) (h : ∀ j, j < K → ow[j]? = some (b j || (l.take t).contains j)) (hx : l[t]? = some x) (hK : x < K) : ∀ j, j < K → (ow.set x true)[j]? = some (b j || (l.take (t + 1)).contains j) := by
  intro j hj
  rw [List.getElem?_set, take_snoc_ hx]
  by_cases hjx : x = j
  · subst hjx
    rw [if_pos rfl, if_pos (by omega)]
    simp
  · rw [if_neg hjx, h j hj]
    have : decide (j = x) = false := decide_eq_false (fun e => hjx e.symm)
    simp [this]

set_option maxRecDepth 100000 in
set_option maxHeartbeats 8000000 in
theorem taking_any {ks : List B32} {B D0 L G n j N K : Nat} {S : Nat → List B8} {c0 : Nat} {w : World} {A : Nat → Prop} {M c : Nat} {f : Tab} (hL : Lg ks B D0 L G n j S c0 w) (hg : Geo n j N K) (hT : TabIn A w M c f) (hw : Wf f N K) :
    Calls Tryz.prog 53 #[lay G N, .map (some M)] w fun e w' => ∃ p q, e = .returned (.func (.func 84) #[] #[.pointer (some ⟨p, 0, none⟩), .pointer (some ⟨q, 0, none⟩)]) ∧ w.heap.size ≤ p ∧ TakeIs w' p q K (frees f N K) ∧ Below w.heap.size w w' := by
  have hb0 := new_below w (.cells #[.pointer (some ⟨G, 0, none⟩), .int .i64 (N : Int)] 77)
  have hk0 := Blk.new w 77 [.pointer (some ⟨G, 0, none⟩), .int .i64 (N : Int)]
  obtain ⟨t0, t1⟩ := blk_pair hk0
  have HC := Lib.hid (lblocks_any (hL.below hb0) hg)
  have hK1 : K ≤ 4096 := by have := hg.nn; have := hg.n1; omega
  have hK0 := hg.K0
  have hmk := fun w => make_bools w K (by omega)
  obtain ⟨F, hM, hF⟩ := hT
  obtain ⟨nn, D, hown, hnc, hD⟩ := hM
  have hMl := hown.lt
  have HT := Lib.hid (And.intro hF (And.intro hD (And.intro hw hown)))
  have H0 := Lib.hid hb0
  clear hb0 hk0 hL hg hF hD hw hown hnc
  go_enter Tryz.func53, Tryz.ntmps53
  go_wp2_with (first
    | (go_at_call 44; refine HC.out.mono ?_; rintro e w2 ⟨rfl, hW⟩; have hs2 := hW.size; rw [World.size_alloc] at hs2; have H3 := Lib.hid (tk_start K (below_of H0.out hW)); clear hW t0 t1)
    | (at_range; refine wpList_range_own _ rfl _ _ rfl 3 98 ikey Tryz.underlying78 RH M nn D rfl (ownsMap_block HT.out.2.2.2 (H3.out.1.block M hMl)) ?_; intro w4 hrg hg4 hs4; have hsz3 := H3.out.1.size; have H4 := Lib.hid (tk_ranged (A := A) (c := c) H3.out hrg hg4); clear hrg hg4 hs4 hmk H3)
    | go_in)
  go_frame
  simp only [World.size_alloc] at H4 hsz3 ⊢
  obtain ⟨g, hgz⟩ : ∃ g, w2.heap.size = g := ⟨_, rfl⟩
  rw [hgz] at H4 hsz3 hs2 ⊢
  clear hgz
  obtain ⟨q, hqz⟩ : ∃ q, g + 1 = q := ⟨_, rfl⟩
  rw [hqz] at H4 hsz3 ⊢
  have hgq : w.heap.size ≤ g := by omega
  clear hqz
  obtain ⟨r, hrz⟩ : ∃ r, q + 1 = r := ⟨_, rfl⟩
  rw [hrz] at H4 hsz3 ⊢
  clear hrz hs2
  go_loopw [7] (fun _ wr => TkLoop A w g q r M c K N nn D f wr) (fun _ wr => wr.rangeLeft M r)
  case atStart =>
    refine ⟨_, _, _, H4.out, fun j hj => ?_⟩
    rw [came_none (fun i h hf => ?_)]
    · simp [hj]
    · have := HT.out.1 i
      rw [hf] at this
      obtain ⟨x, hx, _⟩ := this
      exact HT.out.2.1.has_yes hx
  case round =>
    obtain ⟨left, cnt, ow, hk, hO⟩ := hrel
    clear H4
    go_wp2_with (first
      | (at_next; refine wp_next_nodes rfl (.tmp 15) rfl rfl hk HT.out.2.1 HT.out.1 HT.out.2.2.1 hsz3 ?_ ?_)
      | go_in)
    · intro hl0
      have HK := Lib.hid (And.intro hk (And.intro hO hl0))
      clear hk hO hl0
      go_wp2_with fail
      go_ret
      obtain ⟨h1, h2, h3, h4, h5⟩ := HK.out.1
      refine ⟨wr.heap.size, q, rfl, h5.size, ⟨g, 0, ow, ?_, h2.alloc _, h3.alloc _, h4, Nat.zero_le _, (free_frees h4 (fun j hj => ?_)).symm⟩, h5.trans ((new_below wr _).mono h5.size)⟩
      · exact Blk.new wr 3 [.int .i64 ((0 : Nat) : Int)]
      · rw [HK.out.2.1 j hj, came_all HK.out.2.2]
    · intro i x hd w5 cnt5 hi hfi hin hk5 hlt5 hen hms
      obtain ⟨_, _, hbl, hnd, hbK⟩ := HT.out.2.2.1.ok i hd hfi
      have HK := Lib.hid (And.intro hk5 (And.intro hO (And.intro hfi (And.intro hi (And.intro hin (And.intro hms (And.intro hbK (And.intro hin.bl.len hin))))))))
      clear hk hO hfi hi hk5 hlt5 hms hbl hnd hbK
      obtain ⟨xk, xm, xo, xg, xA, xn, xc, xP, xl, xq⟩ := x
      dsimp only at hin HK
      have hP : Hid (xP = none → xl = 0) := Lib.hid <| by
        rintro rfl
        rcases hin.bl with ⟨e, _⟩ | ⟨g, cap, cs, e, _⟩
        · cases e; rfl
        · cases e
      have hxl : xl ≤ 1000000 := by
        have h1 := hin.bl.len
        have h2 := (HT.out.2.2.1.ok i hd HK.out.2.2.1).2
        have h3 : hd.bl.length = blks hd.data.length := h2.2.1
        have h4 := blks_8 h2.1
        dsimp only at h1
        omega
      clear hin
      rcases xP with _ | ⟨gb, ob, sb⟩
      all_goals
        go_wp2_with fail
        go_loopw [23] (fun iv wq => ∃ t : Nat, t ≤ xl ∧ iv = .int .i64 t ∧ TkIn A w g q r M c K N nn D f left (fun z => left z && !z.sameKey (.int .i64 (i : Int))) cnt5 hd t wq) (fun iv _ => xl - (intOf iv).toNat)
        case atStart =>
          refine ⟨0, Nat.zero_le _, rfl, ow, HK.out.1.alloc _, fun j hj => ?_⟩
          rw [HK.out.2.1 j hj]
          simp
        case round =>
          obtain ⟨t, ht, rfl, ow1, h1, h2⟩ := hrel
          by_cases hlt : t < xl
          · first
              | (exfalso; have hz := hP.out (by trivial); rw [hz] at hlt; exact absurd hlt (Nat.not_lt_zero _))
              | (
                clear hP
                have hxy := HK.out.2.2.2.2.2.2.2.2.below h1.2.2.2.2
                obtain ⟨g', hP, _, _, hcs⟩ := hxy.bl.cells (by simpa using (show 0 < xl by omega))
                obtain ⟨rfl, rfl, rfl⟩ : g' = gb ∧ ob = 0 ∧ sb = none := by
                  have := hP
                  simp only [Option.some.injEq, Addr.mk.injEq] at this
                  exact ⟨this.1.symm, this.2.1, this.2.2⟩
                clear hP
                obtain ⟨b, hb⟩ : ∃ b, hd.bl[t]? = some b := ⟨_, List.getElem?_eq_getElem (by rw [HK.out.2.2.2.2.2.2.2.1]; exact hlt)⟩
                have cb := hcs t b hb
                have hbb := HK.out.2.2.2.2.2.2.1 b (List.mem_of_getElem? hb)
                have cq : wr.cell? ⟨q, 0, none⟩ = some (.slice (some ⟨g, 0, none⟩) K K) := h1.2.1.cell 0
                have cg : wr.cell? ⟨g, b, none⟩ = some (.bool (ow1[b]'(by rw [h1.2.2.2.1]; exact hbb))) := by rw [h1.2.2.1.cell, bools_at (List.getElem?_eq_getElem _)]
                have fg := h1.2.2.1.frozen b
                generalize ow1[b]'(by rw [h1.2.2.2.1]; exact hbb) = ob at cg
                have HR := Lib.hid (And.intro h1 (And.intro h2 hb))
                clear hcs hxy h2 hb
                clear h1
                go_wp2_with fail
                go_roundw
                case rel =>
                  exact ⟨t + 1, by omega, by go_num, ow1.set b true, HR.out.1.set_ hgq b true, set_came HR.out.1.2.2.2.1 HR.out.2.1 HR.out.2.2 hbb⟩
                case measure => simp [intOf]; omega)
          · obtain rfl : t = xl := by omega
            have HR := Lib.hid (And.intro h1 h2)
            clear h1 h2
            go_wp2_with fail
            refine ⟨⟨_, _, _, HR.out.1, fun j hj => ?_⟩, ?_⟩
            · rw [HR.out.2 j hj, List.take_of_length_le (Nat.le_of_eq HK.out.2.2.2.2.2.2.2.1), came_step HK.out.2.2.2.1 HK.out.2.2.1]
            · rw [HR.out.1.1.left_eq, ← HK.out.1.1.left_eq]
              exact HK.out.2.2.2.2.2.1
end Go.Proofs.YtkmkblhmjeeaeaaGreatDoor
end

/-
  copied: a node in memory of its own. Condition: at most a million bytes.
-/

section
set_option linter.unusedSimpArgs false
set_option linter.unusedVariables false
set_option maxRecDepth 100000
namespace Go.Proofs.YtkmkblhmjeeaeaaGreatDoor
open Go.RowKit

abbrev nodeV (k m o g : Int) (P : Option Addr) (n c : Nat) : Value := .agg #[.int .i64 k, .int .i64 m, .int .i64 o, .int .i64 g, .slice P n c]
theorem five_cells {w : World} {b : Nat} {t : TypeId} {x0 x1 x2 x3 x4 : Value} (h : Blk w b t [x0, x1, x2, x3, x4]) : w.cell? ⟨b, 0, none⟩ = some x0 ∧ w.cell? ⟨b, 1, none⟩ = some x1 ∧ w.cell? ⟨b, 2, none⟩ = some x2 ∧ w.cell? ⟨b, 3, none⟩ = some x3 ∧ w.cell? ⟨b, 4, none⟩ = some x4 :=
  ⟨h.cell 0, h.cell 1, h.cell 2, h.cell 3, h.cell 4⟩

/-- What copied's operations leave. -/
def CpV (b : Nat) (k m o g : Int) (P : Option Addr) (n c : Nat) (data : List B8) (i : Nat) (v : Nat → Value) (w : World) : Prop := match i with
  | 0 => v 0 = .pointer (some ⟨b, 0, none⟩)
  | 1 => v 1 = stv k m o g
  | 2 => v 2 = .pointer (some ⟨b, 4, none⟩)
  | 3 => v 3 = .slice P n c
  | 4 => ∃ P' c', v 4 = .slice P' n c' ∧ Bts (fun q => b ≤ q) w (.slice P' n c') data ∧ (data = [] → P' = none ∧ c' = 0)
  | 5 => ∃ P' c', v 5 = nodeV k m o g P' n c' ∧ Bts (fun q => b ≤ q) w (.slice P' n c') data ∧ (data = [] → P' = none ∧ c' = 0)
  | 6 => ∃ P' c', Blk w (b + 1) 42 [.int .i64 k, .int .i64 m, .int .i64 o, .int .i64 g, .slice P' n c'] ∧ Bts (fun q => b ≤ q) w (.slice P' n c') data ∧ (data = [] → P' = none ∧ c' = 0)
  | _ => True
theorem CpV.loc {b : Nat} {k m o g : Int} {P : Option Addr} {n c : Nat} {data : List B8} : ∀ i v j x w, CpV b k m o g P n c data i v w → j ≠ i → j ∉ ([] : List Nat) → CpV b k m o g P n c data i (setV v j x) w := by
  intro i v j x w h hj _
  have e : ∀ q, q ≠ j → setV v j x q = v q := fun q hq => by unfold setV; rw [if_neg hq]
  match i, h, hj with
  | 0, h, hj => exact (e 0 hj.symm).trans h
  | 1, h, hj => exact (e 1 hj.symm).trans h
  | 2, h, hj => exact (e 2 hj.symm).trans h
  | 3, h, hj => exact (e 3 hj.symm).trans h
  | 4, h, hj => obtain ⟨P', c', h1, h2⟩ := h; exact ⟨P', c', (e 4 hj.symm).trans h1, h2⟩
  | 5, h, hj => obtain ⟨P', c', h1, h2⟩ := h; exact ⟨P', c', (e 5 hj.symm).trans h1, h2⟩
  | 6, h, _ => exact h
  | i + 7, _, _ => trivial
/-- What a step leaves as it was. -/
def CpRel (b : Nat) (i : Nat) (w w' : World) : Prop := if i = 6 then Kp b (· = 42) [] w w' else Below w.heap.size w w'
theorem CpV.st {b : Nat} {k m o g : Int} {P : Option Addr} {n c : Nat} {data : List B8} : ∀ i j v w w', j ≠ i → CpV b k m o g P n c data i v w → CpRel b j w w' → CpV b k m o g P n c data i v w' := by
  intro i j v w w' hj h hr
  have hb : ∀ {P' : Option Addr} {c' : Nat}, Bts (fun q => b ≤ q) w (.slice P' n c') data → Bts (fun q => b ≤ q) w' (.slice P' n c') data := fun {P' c'} hx => by
    unfold CpRel at hr
    split at hr
    · exact hx.kp hr (by decide) (by decide) (by simp)
    · exact hx.below hr
  match i, h with
  | 0, h => exact h
  | 1, h => exact h
  | 2, h => exact h
  | 3, h => exact h
  | 4, h => obtain ⟨P', c', h1, h2, h3⟩ := h; exact ⟨P', c', h1, hb h2, h3⟩
  | 5, h => obtain ⟨P', c', h1, h2, h3⟩ := h; exact ⟨P', c', h1, hb h2, h3⟩
  | 6, h =>
    unfold CpRel at hr
    rw [if_neg (by omega)] at hr
    obtain ⟨P', c', h1, h2, h3⟩ := h
    exact ⟨P', c', h1.below hr h1.lt, h2.below hr, h3⟩
  | i + 7, _ => trivial
theorem CpV.four {b : Nat} {k m o g : Int} {P : Option Addr} {n c : Nat} {data : List B8} {v : Nat → Value} {w : World} (h : CpV b k m o g P n c data 4 v w) : ∃ P' c', v 4 = .slice P' n c' ∧ Bts (fun q => b ≤ q) w (.slice P' n c') data ∧ (data = [] → P' = none ∧ c' = 0) := h
theorem CpV.five {b : Nat} {k m o g : Int} {P : Option Addr} {n c : Nat} {data : List B8} {v : Nat → Value} {w : World} (h : CpV b k m o g P n c data 5 v w) : ∃ P' c', v 5 = nodeV k m o g P' n c' ∧ Bts (fun q => b ≤ q) w (.slice P' n c') data ∧ (data = [] → P' = none ∧ c' = 0) := h
theorem CpV.pair {b : Nat} {k m o g : Int} {P : Option Addr} {n c : Nat} {data : List B8} {v : Nat → Value} {w : World} (h : CpV b k m o g P n c data 5 v w) : ∃ z : Option Addr × Nat, v 5 = .agg ([Value.int .i64 k, .int .i64 m, .int .i64 o, .int .i64 g, .slice z.1 n z.2] : List Value).toArray ∧ (Bts (fun q => b ≤ q) w (.slice z.1 n z.2) data ∧ (data = [] → z.1 = none ∧ z.2 = 0)) := by
  obtain ⟨P', c', h1, h2⟩ := h.five
  exact ⟨(P', c'), h1, h2⟩
theorem CpV.six {b : Nat} {k m o g : Int} {P : Option Addr} {n c : Nat} {data : List B8} {v : Nat → Value} {w : World} (h : CpV b k m o g P n c data 6 v w) : ∃ P' c', Blk w (b + 1) 42 [.int .i64 k, .int .i64 m, .int .i64 o, .int .i64 g, .slice P' n c'] ∧ Bts (fun q => b ≤ q) w (.slice P' n c') data ∧ (data = [] → P' = none ∧ c' = 0) := h
/-- What holds ahead of each step. -/
def CpR (w0 : World) (k m o g : Int) (P : Option Addr) (n c : Nat) (w : World) : Prop :=
  Below w0.heap.size w0 w ∧ w0.heap.size + 2 ≤ w.heap.size ∧ Blk w w0.heap.size 42 [.int .i64 k, .int .i64 m, .int .i64 o, .int .i64 g, .slice P n c] ∧ ∃ cs, Blk w (w0.heap.size + 1) 42 cs ∧ cs.length = 5
theorem CpR.below {w0 : World} {k m o g : Int} {P : Option Addr} {n c : Nat} {w w' : World} (h : CpR w0 k m o g P n c w) (hb : Below w.heap.size w w') : CpR w0 k m o g P n c w' := by
  obtain ⟨h1, h2, h3, cs, h4, h5⟩ := h
  exact ⟨h1.trans (hb.mono h1.size), Nat.le_trans h2 hb.size, h3.below hb h3.lt, cs, h4.below hb h4.lt, h5⟩

set_option maxRecDepth 100000 in
set_option maxHeartbeats 1000000 in
theorem copied_any (w : World) (A : Nat → Prop) (k m o g : Int) (P : Option Addr) (n c : Nat) (data : List B8) (hx : Bts A w (.slice P n c) data) (hn : n ≤ 1000000) :
    Calls Tryz.prog 39 #[nodeV k m o g P n c] w fun e w' => ∃ P' c', e = .returned (nodeV k m o g P' n c') ∧ Bts (fun q => w.heap.size ≤ q) w' (.slice P' n c') data ∧ (data = [] → P' = none ∧ c' = 0) ∧ Below w.heap.size w w' := by
  have hb1 := new_below w (.cells #[.int .i64 k, .int .i64 m, .int .i64 o, .int .i64 g, .slice P n c] 42)
  have hk1 := Blk.new w 42 [.int .i64 k, .int .i64 m, .int .i64 o, .int .i64 g, .slice P n c]
  have hb2 := new_below (w.alloc (.cells #[.int .i64 k, .int .i64 m, .int .i64 o, .int .i64 g, .slice P n c] 42)) (.cells #[.int .i64 0, .int .i64 0, .int .i64 0, .int .i64 0, .slice none 0 0] 42)
  have hk2 := Blk.new (w.alloc (.cells #[.int .i64 k, .int .i64 m, .int .i64 o, .int .i64 g, .slice P n c] 42)) 42 [.int .i64 0, .int .i64 0, .int .i64 0, .int .i64 0, .slice none 0 0]
  rw [World.size_alloc] at hk2
  have hbb := below_of hb1 hb2
  have H0 : Hid (CpR w k m o g P n c (((w.alloc (.cells #[.int .i64 k, .int .i64 m, .int .i64 o, .int .i64 g, .slice P n c] 42)).alloc (.cells #[.int .i64 0, .int .i64 0, .int .i64 0, .int .i64 0, .slice none 0 0] 42)).drew)) := Lib.hid ((show CpR w k m o g P n c _ from ⟨hbb, by simp, hk1.below hb2 hk1.lt, _, hk2, rfl⟩).below (drew_below _))
  have HX := Lib.hid hx
  clear hb1 hk1 hb2 hk2 hbb hx
  go_enter Tryz.func39, Tryz.ntmps39
  go_wp2_with fail
  refine wp_region_look [some 3, some 4, some 5, some 6, some 7, some 8, none] (CpV w.heap.size k m o g P n c data) (fun _ => []) (CpR w k m o g P n c) (CpRel w.heap.size) 7 (by kernel_rfl) rfl rfl rfl (by kernel_rfl) H0.out CpV.loc ?_ CpV.st ?_ ?_
  · intro i hi
    match i, hi with
    | 0, _ => exact (by decide +kernel)
    | 1, _ => exact (by decide +kernel)
    | 2, _ => exact (by decide +kernel)
    | 3, _ => exact (by decide +kernel)
    | 4, _ => exact (by decide +kernel)
    | 5, _ => exact (by decide +kernel)
    | 6, _ => exact (by decide +kernel)
    | i + 7, h => omega
  · intro i hi
    match i, hi with
    | 0, _ =>
      refine StepL.of rfl [] (by decide +kernel) ?_
      intro v wx hR hd K hK
      simp only [List.getElem_toArray, List.getElem_cons_zero, List.getElem_cons_succ, fillR, Act.put, List.setIfInBounds_toArray, List.set_cons_zero, List.set_cons_succ] at hK ⊢
      go_simp
      exact hK.out _ _ hR (Below.refl _ _) rfl
    | 1, _ =>
      refine StepL.of rfl [0] (by decide +kernel) ?_
      intro v wx hR hd K hK
      have h0 : v 0 = _ := hd 0 (by simp)
      have hbx := hR.2.2.1
      clear hd
      simp only [List.getElem_toArray, List.getElem_cons_zero, List.getElem_cons_succ, fillR, Act.put, List.setIfInBounds_toArray, List.set_cons_zero, List.set_cons_succ, h0] at hK ⊢
      rw [if_pos (by rfl)]
      refine wp_load_mid 39 (.tmp 3) rfl w.heap.size 0 rfl (sts k m o g) _ (fun j u hu => ?_) Tryz.underlying39 rfl (by kernel_rfl) ?_
      · rw [Nat.zero_add, Blk.cell hbx]
        match j, hu with
        | 0, hu => exact hu
        | 1, hu => exact hu
        | 2, hu => exact hu
        | 3, hu => exact hu
        | j + 4, hu => simp [sts] at hu
      · exact hK.out _ _ hR (Below.refl _ _) rfl
    | 2, _ =>
      refine StepL.of rfl [] (by decide +kernel) ?_
      intro v wx hR hd K hK
      simp only [List.getElem_toArray, List.getElem_cons_zero, List.getElem_cons_succ, fillR, Act.put, List.setIfInBounds_toArray, List.set_cons_zero, List.set_cons_succ] at hK ⊢
      go_simp
      exact hK.out _ _ hR (Below.refl _ _) rfl
    | 3, _ =>
      refine StepL.of rfl [2] (by decide +kernel) ?_
      intro v wx hR hd K hK
      have h2 : v 2 = _ := hd 2 (by simp)
      have c4 := hR.2.2.1.cell 4
      simp only [List.getElem?_cons_succ, List.getElem?_cons_zero] at c4
      clear hd
      simp only [List.getElem_toArray, List.getElem_cons_zero, List.getElem_cons_succ, fillR, Act.put, List.setIfInBounds_toArray, List.set_cons_zero, List.set_cons_succ, h2] at hK ⊢
      go_simp
      exact hK.out _ _ hR (Below.refl _ _) rfl
    | 4, _ =>
      refine StepL.of rfl [3] (by decide +kernel) ?_
      intro v wx hR hd K hK
      have h3 : v 3 = _ := hd 3 (by simp)
      clear hd
      simp only [List.getElem_toArray, List.getElem_cons_zero, List.getElem_cons_succ, fillR, Act.put, List.setIfInBounds_toArray, List.set_cons_zero, List.set_cons_succ, h3] at hK ⊢
      rw [if_pos (by rfl)]
      refine wp_app_bytes (N := wx.heap.size) (.const (.slice none 0 0)) (.tmp 6) rfl none 0 rfl (.inl ⟨rfl, rfl⟩) rfl (show Bts A wx (.slice P n c) data from ?_) hn (Nat.le_refl _) ?_
      · rcases HX.out with h | ⟨q, o', cap, t, cs, e, hA, hn', hb, ht, h1, h2⟩
        · exact .inl h
        · exact .inr ⟨q, o', cap, t, cs, e, hA, hn', hb.below hR.1 hb.lt, ht, h1, h2⟩
      · intro P' c' w1 hv hnil hk hbel
        exact hK.out _ _ (hR.below (hbel rfl)) (hbel rfl) ⟨P', c', rfl, hv.mono (fun q hq _ => by have := hR.2.1; omega), hnil⟩
    | 5, _ =>
      refine StepL.of rfl [1, 4] (by decide +kernel) ?_
      intro v wx hR hd K hK
      have h1 : v 1 = _ := hd 1 (by simp)
      have hq4 : CpV w.heap.size k m o g P n c data 4 v wx := hd 4 (List.mem_cons_of_mem _ List.mem_cons_self)
      obtain ⟨P', c', h4, hv, hnil⟩ := hq4.four
      have HV := Lib.hid (And.intro hv hnil)
      clear hd hv hnil
      simp only [List.getElem_toArray, List.getElem_cons_zero, List.getElem_cons_succ, fillR, Act.put, List.setIfInBounds_toArray, List.set_cons_zero, List.set_cons_succ, h1, h4] at hK ⊢
      go_simp
      exact hK.out _ _ hR (Below.refl _ _) ⟨P', c', rfl, HV.out⟩
    | 6, _ =>
      refine StepL.of rfl [5] (by decide +kernel) ?_
      intro v wx hR hd K hK
      have hq5 : CpV w.heap.size k m o g P n c data 5 v wx := hd 5 List.mem_cons_self
      have hr1 := hR.1
      have hr2 := hR.2.1
      have hr3 := hR.2.2.1
      have hr4 := hR.2.2.2
      clear hd
      simp only [List.getElem_toArray, List.getElem_cons_zero, List.getElem_cons_succ, fillR, Act.put, List.setIfInBounds_toArray, List.set_cons_zero, List.set_cons_succ] at hK ⊢
      rw [if_pos (by rfl)]
      refine wp_store_val (α := Option Addr × Nat) 42 (.tmp 2) (.tmp 8) rfl (w.heap.size + 1) rfl rfl (fun z => [.int .i64 k, .int .i64 m, .int .i64 o, .int .i64 g, .slice z.1 n z.2]) (fun z => Bts (fun q => w.heap.size ≤ q) wx (.slice z.1 n z.2) data ∧ (data = [] → z.1 = none ∧ z.2 = 0)) hq5.pair hr4 (fun _ => rfl) node_size (fun z => node_cells _ _ _ _ _ _ _) ?_
      intro z w2 hz hA hO hkp
      exact hK.out undef _ ⟨hr1.trans (hkp w.heap.size (by omega) (by omega)).below, Nat.le_trans hr2 hO.size, hr3.only hO (by simp), _, hA, rfl⟩ (by unfold CpRel; rw [if_pos rfl]; exact hkp w.heap.size (by omega) (by omega)) ⟨z.1, z.2, hA, hz.1.kp (hkp w.heap.size (by omega) (by omega)) (by decide) (by decide) (by simp), hz.2⟩
    | i + 7, h => omega
  · intro v wx hR hV
    have hq6 : CpV w.heap.size k m o g P n c data 6 v wx := hV 6 (by omega)
    obtain ⟨P', c', hk, hb, hnil⟩ := hq6.six
    clear hq6
    have HE := Lib.hid (And.intro hb (And.intro hnil hR.1))
    obtain ⟨e0, e1, e2, e3, e4⟩ := five_cells hk
    clear hV hR hk hb hnil
    simp only [fillR, Act.put, List.setIfInBounds_toArray, List.set_cons_zero, List.set_cons_succ]
    go_wp2_with fail
    refine bodyPost_ret (v := nodeV k m o g P' n c') (by simp [results, Tryz.results39, go_sem, e0, e1, e2, e3, e4]) rfl ⟨P', c', rfl, HE.out⟩
end Go.Proofs.YtkmkblhmjeeaeaaGreatDoor
end

/-
  Tables of nodes in memory, and changes in memory: what operations on them leave. Plain theorems on worlds; no condition.
-/

section
set_option linter.unusedSimpArgs false
set_option linter.unusedVariables false
set_option maxRecDepth 100000
namespace Go.Proofs.YtkmkblhmjeeaeaaGreatDoor
open Go.RowKit Go.Maps

/-- A change, as it lies, and what it says. -/
structure ChIn (A : Nat → Prop) (w : World) (x : Cv) (c : Ch) : Prop where
  no : x.no = c.no
  k : x.k = c.k
  m : x.m = c.m
  o : x.o = c.o
  g : x.g = c.g
  drop : x.drop = c.drop
  data : Bts A w (.slice x.A x.n x.c) c.data
def ChsIn (A : Nat → Prop) (w : World) (l : List Cv) (lc : List Ch) : Prop := l.length = lc.length ∧ ∀ (i : Nat) x c, l[i]? = some x → lc[i]? = some c → ChIn A w x c
theorem ChIn.below {A : Nat → Prop} {w w' : World} {x : Cv} {c : Ch} (h : ChIn A w x c) (hs : Below w.heap.size w w') : ChIn A w' x c := ⟨h.no, h.k, h.m, h.o, h.g, h.drop, h.data.below hs⟩
theorem ChsIn.below {A : Nat → Prop} {w w' : World} {l : List Cv} {lc : List Ch} (h : ChsIn A w l lc) (hs : Below w.heap.size w w') : ChsIn A w' l lc := ⟨h.1, fun i x c hx hc => (h.2 i x c hx hc).below hs⟩
theorem ChsIn.at_ {A : Nat → Prop} {w : World} {l : List Cv} {lc : List Ch} (h : ChsIn A w l lc) {i : Nat} {x : Cv} (hx : l[i]? = some x) : ∃ c, lc[i]? = some c ∧ ChIn A w x c := by
  have hi := (List.getElem?_eq_some_iff.1 hx).1
  have : i < lc.length := by have := h.1; omega
  exact ⟨lc[i], List.getElem?_eq_getElem this, h.2 i x _ hx (List.getElem?_eq_getElem this)⟩

theorem HIn.held_ {A : Nat → Prop} {w w' : World} {x : Hv} {h : Hd} (hh : HIn A w x h) (hk : ∀ g t cs, A g → Blk w g t cs → Blk w' g t cs) : HIn A w' x h := by
  refine ⟨hh.k, hh.m, hh.o, hh.g, ?_, ?_⟩
  · rcases hh.data with h | ⟨g, o, cap, t, cs, e, hA, hn, hb, hx, h1, h2⟩
    · exact .inl h
    · exact .inr ⟨g, o, cap, t, cs, e, hA, hn, hk _ _ _ hA hb, hx, h1, h2⟩
  · rcases hh.bl with h | ⟨g, cap, cs, e, hA, hb, hx, h1, h2⟩
    · exact .inl h
    · exact .inr ⟨g, cap, cs, e, hA, hk _ _ _ hA hb, hx, h1, h2⟩
section
variable {A : Nat → Prop} {w w' : World} {M c : Nat} {f : Tab}
/-- What only some blocks were turned by. -/
theorem TabIn.only {S : List Nat} (h : TabIn A w M c f) (ho : Only S w w') (hM : M ∉ S) (hA : ∀ g, A g → g ∉ S) : TabIn A w' M c f := by
  obtain ⟨F, h1, h2⟩ := h
  refine ⟨F, h1.block (ho.block M h1.lt hM), fun i => ?_⟩
  have := h2 i
  cases hf : f i with
  | none => rw [hf] at this; exact this
  | some x =>
    rw [hf] at this
    obtain ⟨y, h3, h4⟩ := this
    exact ⟨y, h3, h4.held_ fun g t cs hg hb => hb.only ho (hA g hg)⟩
/-- A table that was copied. -/
theorem TabIn.copied {n : Nat} {D : DataW Hv} {F : Nat → Option Hv} {M' : Nat} (hF : ∀ i, match f i with | none => F i = none | some h => ∃ x, F i = some x ∧ HIn A w x h) (hD : Reads D F) (hn : n ≤ c) (ho : w'.ownsMap Tryz.prog 3 RH M' n D) (hs : Below w.heap.size w w') : TabIn A w' M' c f := by
  refine ⟨F, ⟨n, D, ho, hn, hD⟩, fun i => ?_⟩
  have := hF i
  cases hf : f i with
  | none => rw [hf] at this; exact this
  | some x =>
    rw [hf] at this
    obtain ⟨y, h3, h4⟩ := this
    exact ⟨y, h3, h4.below hs⟩
theorem tab_set {F : Nat → Option Hv} (hF : ∀ i, match f i with | none => F i = none | some h => ∃ x, F i = some x ∧ HIn A w x h) (ht : w.mapTurned w' M) (i : Nat) {y : Hv} {hd : Hd} (hy : HIn A w y hd) :
    ∀ j, match tset f i (some hd) j with | none => fset F i (some y) j = none | some h => ∃ x, fset F i (some y) j = some x ∧ HIn A w' x h := by
  intro j
  by_cases hj : j = i
  · subst hj
    rw [tset_same, fset_same]
    exact ⟨y, rfl, hy.turned ht⟩
  · rw [tset_ne _ hj, fset_ne _ hj]
    have := hF j
    cases hf : f j with
    | none => rw [hf] at this; exact this
    | some x =>
      rw [hf] at this
      obtain ⟨z, h3, h4⟩ := this
      exact ⟨z, h3, h4.turned ht⟩
theorem tab_unset {F : Nat → Option Hv} (hF : ∀ i, match f i with | none => F i = none | some h => ∃ x, F i = some x ∧ HIn A w x h) (ht : w.mapTurned w' M) (i : Nat) :
    ∀ j, match tset f i none j with | none => fset F i none j = none | some h => ∃ x, fset F i none j = some x ∧ HIn A w' x h := by
  intro j
  by_cases hj : j = i
  · subst hj
    rw [tset_same, fset_same]
  · rw [tset_ne _ hj, fset_ne _ hj]
    have := hF j
    cases hf : f j with
    | none => rw [hf] at this; exact this
    | some x =>
      rw [hf] at this
      obtain ⟨z, h3, h4⟩ := this
      exact ⟨z, h3, h4.turned ht⟩
variable {ops : Array Oper} {rest : List Oper} {o : Oper} {a : Act} {Q : Exit → Act → World → Prop}
/-- 'delete(m, i)'. -/
theorem wp_del_tab (hg : o.guard = none) (m x : Operand) (hop : o.op = Op.call { callee := Callee.builtin Builtin.delete, args := #[m, x], argTypes := #[78, 3] }) (h : TabIn A w M c f) (i : Nat) (hi : (i : Int) ≤ 9223372036854775807) (hm : a.eval m = .map (some M)) (hx : a.eval x = .int .i64 i)
    (hK : ∀ w', TabIn A w' M c (tset f i none) → w.mapTurned w' M → wpList Tryz.prog ops Q rest (a.put o.dst (.tuple #[])) w') : wpList Tryz.prog ops Q (o :: rest) a w := by
  obtain ⟨F, h1, h2⟩ := h
  exact wp_del hg m x hop h1 i hi hm hx fun w' hM ht => hK w' ⟨_, hM, tab_unset h2 ht i⟩ ht
/-- 'm[i] = v', alone. -/
theorem op_put_tab {K : Act → World → Prop} (m x v : Operand) (hop : o.op = Op.mapUpdate 78 m x v) (h : TabIn A w M c f) (hc : c ≤ 1000000) (i : Nat) (hi : (i : Int) ≤ 9223372036854775807) (y : Hv) (hd : Hd) (hy : HIn A w y hd) (hm : a.eval m = .map (some M)) (hx : a.eval x = .int .i64 i) (hv : a.eval v = hval y)
    (hK : ∀ w', TabIn A w' M (c + 1) (tset f i (some hd)) → w.mapTurned w' M → K (a.put o.dst undef) w') : Oper.wp Tryz.prog o a w K Q := by
  obtain ⟨F, ⟨n, D, h1, h3, h4⟩, h2⟩ := h
  obtain ⟨w', hrun, r1, r2⟩ := h1.store ikey Tryz.underlying78 (by unfold maxLen; omega) (ikeyOf (by omega) hi) (RH_mk y)
  unfold Oper.wp
  simp [execOp, hop, hm, hx, hv, hrun, Result.andThen]
  exact hK w' ⟨_, ⟨_, _, r1, by omega, h4.put i y⟩, tab_set h2 r2 i hy⟩ r2
end
theorem TakeIs.keep {w w' : World} {p q K : Nat} {fr : List Nat} (h : TakeIs w p q K fr) (hk : ∀ g t cs, Blk w g t cs → Blk w' g t cs) : TakeIs w' p q K fr := by
  obtain ⟨g, i, ow, h1, h2, h3, h4⟩ := h
  exact ⟨g, i, ow, hk _ _ _ h1, hk _ _ _ h2, hk _ _ _ h3, h4⟩
theorem TakeIs.below {w w' : World} {p q K : Nat} {fr : List Nat} (h : TakeIs w p q K fr) (hs : Below w.heap.size w w') : TakeIs w' p q K fr := h.keep fun g t cs hb => hb.below hs hb.lt
end Go.Proofs.YtkmkblhmjeeaeaaGreatDoor
end
