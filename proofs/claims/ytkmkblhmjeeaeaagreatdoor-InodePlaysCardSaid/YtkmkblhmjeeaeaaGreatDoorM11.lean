/-
  Maps from numbers to nodes, as they lie in memory, and what operations make of them. Plain theorems on worlds; no condition.
-/
import Derived.Test.YtkmkblhmjeeaeaaGreatDoorM7
import Derived.Maps.OwnSet
import Derived.Maps.OwnOps
import Derived.Maps.RangeWalk
import Derived.Maps.Ext
import Derived.Test.YtkmkblhmjeeaeaaGreatDoorM9
section
set_option maxRecDepth 100000
set_option linter.unusedSimpArgs false
set_option linter.unusedVariables false
namespace Go.Proofs.YtkmkblhmjeeaeaaGreatDoor
open Go.RowKit Go.Maps

/-- A node, as it lies: a slice for its bytes, one for its blocks. -/
structure Hv where
  k : Int
  m : Int
  o : Int
  g : Int
  A : Option Addr
  n : Nat
  c : Nat
  P : Option Addr
  l : Nat
  q : Nat
abbrev hval (x : Hv) : Value := .agg #[.int .i64 x.k, .int .i64 x.m, .int .i64 x.o, .int .i64 x.g, .slice x.A x.n x.c, .slice x.P x.l x.q]
def hv0 : Hv := ⟨0, 0, 0, 0, none, 0, 0, none, 0, 0⟩
/-- How an element of such a map reads: as itself. -/
def RH (v : Value) : Option (DataW Hv × List MemPlace) := match v with
  | .agg cs => match cs.toList with
    | [.int .i64 k, .int .i64 m, .int .i64 o, .int .i64 g, .slice A n c, .slice P l q] => some (.held ⟨k, m, o, g, A, n, c, P, l, q⟩, [])
    | _ => none
  | _ => none
theorem RH_mk (x : Hv) : RH (hval x) = some (.held x, []) := rfl
theorem RH_inv {v : Value} {z : DataW Hv × List MemPlace} (h : RH v = some z) : ∃ x, v = hval x ∧ z = (.held x, []) := by
  unfold RH at h
  split at h
  · rename_i cs
    split at h
    · rename_i k m o g A n c P l q he
      cases h
      refine ⟨⟨k, m, o, g, A, n, c, P, l, q⟩, ?_, rfl⟩
      unfold hval
      congr 1
      exact Array.ext' he
    · cases h
  · cases h
/-- A map that reads as a function on the numbers from 0 on. -/
structure Reads {X : Type} (D : DataW X) (F : Nat → Option X) : Prop where
  isMap : IsMap D
  has : ∀ x : Int, Maps.has D (.int .i64 x) = true ↔ ∃ i : Nat, x = (i : Int) ∧ ∃ v, F i = some v
  at_ : ∀ (i : Nat) v z, F i = some v → D.atKey (.int .i64 i) z = .held v
def fset {X : Type} (F : Nat → Option X) (i : Nat) (v : Option X) : Nat → Option X := fun j => if j = i then v else F j
theorem fset_same {X : Type} (F : Nat → Option X) (i : Nat) (v : Option X) : fset F i v i = v := by simp [fset]
theorem fset_ne {X : Type} (F : Nat → Option X) {i j : Nat} (h : j ≠ i) (v : Option X) : fset F i v j = F j := by simp [fset, h]
theorem Reads.empty {X : Type} : Reads (.map [] : DataW X) (fun _ => none) := ⟨isMap_empty, fun x => ⟨fun h => (by cases h), fun ⟨_, _, _, h⟩ => (by cases h)⟩, fun _ _ _ h => (by cases h)⟩
theorem ikl (x : Int) : WideAt.IsKeyLit (.int .i64 x) := by simp [WideAt.IsKeyLit]
theorem lit_ne {x y : Int} (h : x ≠ y) : (Lit.int .i64 x) ≠ .int .i64 y := fun e => h (by cases e; rfl)
theorem Reads.put {X : Type} {D : DataW X} {F : Nat → Option X} (h : Reads D F) (i : Nat) (v : X) : Reads (D.put (.int .i64 i) (.held v)) (fset F i (some v)) := by
  refine ⟨h.isMap.put _ _, fun x => ?_, fun j u z hj => ?_⟩
  · by_cases hx : x = (i : Int)
    · subst hx
      rw [has_put_same h.isMap (ikl _)]
      exact ⟨fun _ => ⟨i, rfl, v, fset_same _ _ _⟩, fun _ => rfl⟩
    · rw [has_put_other (lit_ne hx), h.has]
      constructor
      · rintro ⟨j, rfl, u, hu⟩
        exact ⟨j, rfl, u, by rw [fset_ne _ (fun e => hx (by rw [e]))]; exact hu⟩
      · rintro ⟨j, rfl, u, hu⟩
        exact ⟨j, rfl, u, by rw [fset_ne _ (fun e => hx (by rw [e]))] at hu; exact hu⟩
  · by_cases hji : j = i
    · subst hji
      rw [fset_same] at hj
      cases hj
      exact atKey_put_same h.isMap (ikl _) _ _
    · rw [fset_ne _ hji] at hj
      rw [atKey_put_other (lit_ne (by omega))]
      exact h.at_ j u z hj
theorem Reads.del {X : Type} {D : DataW X} {F : Nat → Option X} (h : Reads D F) (i : Nat) : Reads (D.del (.int .i64 i)) (fset F i none) := by
  refine ⟨h.isMap.del _, fun x => ?_, fun j u z hj => ?_⟩
  · by_cases hx : x = (i : Int)
    · subst hx
      rw [has_del_same]
      exact ⟨fun h => (by cases h), fun ⟨j, hj, v, hv⟩ => by
        have : j = i := by omega
        subst this
        rw [fset_same] at hv
        cases hv⟩
    · rw [has_del_other (lit_ne hx), h.has]
      constructor
      · rintro ⟨j, rfl, u, hu⟩
        exact ⟨j, rfl, u, by rw [fset_ne _ (fun e => hx (by rw [e]))]; exact hu⟩
      · rintro ⟨j, rfl, u, hu⟩
        exact ⟨j, rfl, u, by rw [fset_ne _ (fun e => hx (by rw [e]))] at hu; exact hu⟩
  · by_cases hji : j = i
    · subst hji
      rw [fset_same] at hj
      cases hj
    · rw [fset_ne _ hji] at hj
      rw [atKey_del_other (lit_ne (by omega))]
      exact h.at_ j u z hj
theorem Reads.has_yes {X : Type} {D : DataW X} {F : Nat → Option X} (h : Reads D F) {i : Nat} {v : X} (hv : F i = some v) : Maps.has D (.int .i64 i) = true := (h.has i).2 ⟨i, rfl, v, hv⟩
theorem Reads.has_no {X : Type} {D : DataW X} {F : Nat → Option X} (h : Reads D F) {x : Int} (hv : ∀ i : Nat, x = (i : Int) → F i = none) : Maps.has D (.int .i64 x) = false := by
  cases hh : Maps.has D (.int .i64 x) with
  | false => rfl
  | true =>
    obtain ⟨i, hi, v, hv'⟩ := (h.has x).1 hh
    rw [hv i hi] at hv'
    cases hv'

/-- A slice of numbers: nil, or in a block of numbers that A allows. -/
def Ns (A : Nat → Prop) (w : World) (v : Value) (xs : List Nat) : Prop :=
  (v = .slice none 0 0 ∧ xs = []) ∨ ∃ g cap cs, v = .slice (some ⟨g, 0, none⟩) xs.length cap ∧ A g ∧ Blk w g 3 cs ∧ cs.take xs.length = xs.map (fun (x : Nat) => Value.int .i64 (x : Int)) ∧ xs.length ≤ cap ∧ cap ≤ maxLen
theorem Ns.stp {A : Nat → Prop} {w w' : World} {v : Value} {xs : List Nat} {B : Nat} {X : List Nat} (h : Ns A w v xs) (hs : Stp B X w w') (hX : ∀ g, A g → g ∉ X) : Ns A w' v xs := by
  rcases h with h | ⟨g, cap, cs, e, hA, hb, ht, h1, h2⟩
  · exact .inl h
  · exact .inr ⟨g, cap, cs, e, hA, hs.keep g _ cs (by decide) (hX g hA) hb, ht, h1, h2⟩
theorem Ns.below {A : Nat → Prop} {w w' : World} {v : Value} {xs : List Nat} (h : Ns A w v xs) (hs : Below w.heap.size w w') : Ns A w' v xs := by
  rcases h with h | ⟨g, cap, cs, e, hA, hb, ht, h1, h2⟩
  · exact .inl h
  · exact .inr ⟨g, cap, cs, e, hA, hb.below hs hb.lt, ht, h1, h2⟩
theorem Ns.mono {A A' : Nat → Prop} {w : World} {v : Value} {xs : List Nat} (h : Ns A w v xs) (hA : ∀ g, A g → g < w.heap.size → A' g) : Ns A' w v xs := by
  rcases h with h | ⟨g, cap, cs, e, ha, hb, ht, h1, h2⟩
  · exact .inl h
  · exact .inr ⟨g, cap, cs, e, hA g ha hb.lt, hb, ht, h1, h2⟩
theorem Ns.form {A : Nat → Prop} {w : World} {v : Value} {xs : List Nat} (h : Ns A w v xs) : ∃ P c, v = .slice P xs.length c ∧ xs.length ≤ c ∧ c ≤ 9223372036854775807 := by
  rcases h with ⟨rfl, rfl⟩ | ⟨g, cap, cs, rfl, _, _, _, h1, h2⟩
  · exact ⟨none, 0, rfl, Nat.le_refl _, by omega⟩
  · exact ⟨some ⟨g, 0, none⟩, cap, rfl, h1, by unfold maxLen at h2; omega⟩
theorem Ns.len {A : Nat → Prop} {w : World} {P : Option Addr} {n c : Nat} {xs : List Nat} (h : Ns A w (.slice P n c) xs) : xs.length = n := by
  obtain ⟨P', c', e, _⟩ := h.form
  cases e
  rfl
theorem Ns.cells {A : Nat → Prop} {w : World} {P : Option Addr} {n c : Nat} {xs : List Nat} (h : Ns A w (.slice P n c) xs) (hn : 0 < n) :
    ∃ g, P = some ⟨g, 0, none⟩ ∧ A g ∧ g < w.heap.size ∧ ∀ (j x : Nat), xs[j]? = some x → w.cell? ⟨g, j, none⟩ = some (.int .i64 (x : Int)) := by
  rcases h with ⟨e, rfl⟩ | ⟨g, cap, cs, e, hA, hb, ht, h1, h2⟩
  · cases e
    omega
  · cases e
    refine ⟨g, rfl, hA, hb.lt, fun j x hx => ?_⟩
    rw [hb.cell]
    have := congrArg (fun l => l[j]?) ht
    simp only [List.getElem?_take, List.getElem?_map, hx, Option.map_some] at this
    rw [if_pos (List.getElem?_eq_some_iff.1 hx).1] at this
    exact this
/-- A node's slices hold its bytes and its blocks. -/
structure HIn (A : Nat → Prop) (w : World) (x : Hv) (h : Hd) : Prop where
  k : x.k = h.k
  m : x.m = h.m
  o : x.o = h.o
  g : x.g = h.g
  data : Bts A w (.slice x.A x.n x.c) h.data
  bl : Ns A w (.slice x.P x.l x.q) h.bl
theorem HIn.below {A : Nat → Prop} {w w' : World} {x : Hv} {h : Hd} (hh : HIn A w x h) (hs : Below w.heap.size w w') : HIn A w' x h := ⟨hh.k, hh.m, hh.o, hh.g, hh.data.below hs, hh.bl.below hs⟩
theorem HIn.stp {A : Nat → Prop} {w w' : World} {x : Hv} {h : Hd} {B : Nat} {X : List Nat} (hh : HIn A w x h) (hs : Stp B X w w') (hX : ∀ g, A g → g ∉ X) : HIn A w' x h := ⟨hh.k, hh.m, hh.o, hh.g, hh.data.stp hs hX, hh.bl.stp hs hX⟩
theorem HIn.mono {A A' : Nat → Prop} {w : World} {x : Hv} {h : Hd} (hh : HIn A w x h) (hA : ∀ g, A g → g < w.heap.size → A' g) : HIn A' w x h := ⟨hh.k, hh.m, hh.o, hh.g, hh.data.mono hA, hh.bl.mono hA⟩

/-- Block M is a map of at most c entries that reads as F. -/
def MapIs (w : World) (M c : Nat) (F : Nat → Option Hv) : Prop := ∃ n D, w.ownsMap Tryz.prog 3 RH M n D ∧ n ≤ c ∧ Reads D F
theorem MapIs.lt {w : World} {M c : Nat} {F : Nat → Option Hv} (h : MapIs w M c F) : M < w.heap.size := by
  obtain ⟨n, D, h, _⟩ := h
  exact h.lt
theorem ownsMap_block {X : Type} {R : Value → Option (DataW X × List MemPlace)} {P : Program} {k : TypeId} {w w' : World} {b n : Nat} {D : DataW X} (h : w.ownsMap P k R b n D) (hb : w'.heap[b]? = w.heap[b]?) : w'.ownsMap P k R b n D := by
  obtain ⟨es, clock, h1, h2, h3, h4⟩ := h
  exact ⟨es, clock, hb.trans h1, h2, h3, h4⟩
theorem MapIs.block {w w' : World} {M c : Nat} {F : Nat → Option Hv} (h : MapIs w M c F) (hb : w'.heap[M]? = w.heap[M]?) : MapIs w' M c F := by
  obtain ⟨n, D, h1, h2, h3⟩ := h
  exact ⟨n, D, ownsMap_block h1 hb, h2, h3⟩
theorem MapIs.below {w w' : World} {M c : Nat} {F : Nat → Option Hv} (h : MapIs w M c F) (hs : Below w.heap.size w w') : MapIs w' M c F := h.block (hs.block M h.lt)
theorem MapIs.stp {w w' : World} {M c : Nat} {F : Nat → Option Hv} {B : Nat} {X : List Nat} (h : MapIs w M c F) (hs : Stp B X w w') : MapIs w' M c F := by
  obtain ⟨n, D, h1, h2, h3⟩ := h
  obtain ⟨es, clock, h4, h5, h6, h7⟩ := h1
  exact ⟨n, D, ⟨es, clock, hs.others M _ h4 rfl, h5, h6, h7⟩, h2, h3⟩
theorem MapIs.mono {w : World} {M c c' : Nat} {F : Nat → Option Hv} (h : MapIs w M c F) (hc : c ≤ c') : MapIs w M c' F := by
  obtain ⟨n, D, h1, h2, h3⟩ := h
  exact ⟨n, D, h1, by omega, h3⟩
theorem turned_below {w w' : World} {M B : Nat} (h : w.mapTurned w' M) (hB : B ≤ M) (hs : B ≤ w.heap.size) : Below B w w' := by
  have hg := h.grown
  exact ⟨hg.os, hg.tape, hg.output, hg.size, fun k hk => hg.block k (by omega) (fun e => by cases e; omega)⟩
theorem turned_size {w w' : World} {M : Nat} (h : w.mapTurned w' M) : w'.heap.size = w.heap.size := by
  obtain ⟨es, cl, es', cl', h1, rfl⟩ := h
  simp [ChangeMaps.setBlock]
theorem Blk.turned {w w' : World} {M g : Nat} {t : TypeId} {cs : List Value} (h : Blk w g t cs) (ht : w.mapTurned w' M) : Blk w' g t cs := by
  refine h.grown ht.grown fun e => ?_
  cases e
  obtain ⟨es, cl, es', cl', h1, _⟩ := ht
  unfold Blk at h
  rw [h] at h1
  cases h1
theorem Bts.turned {A : Nat → Prop} {w w' : World} {v : Value} {xs : List B8} {M : Nat} (h : Bts A w v xs) (ht : w.mapTurned w' M) : Bts A w' v xs := by
  rcases h with h | ⟨g, o, cap, t, cs, e, hA, hn, hb, hx, h1, h2⟩
  · exact .inl h
  · exact .inr ⟨g, o, cap, t, cs, e, hA, hn, hb.turned ht, hx, h1, h2⟩
theorem Ns.turned {A : Nat → Prop} {w w' : World} {v : Value} {xs : List Nat} {M : Nat} (h : Ns A w v xs) (ht : w.mapTurned w' M) : Ns A w' v xs := by
  rcases h with h | ⟨g, cap, cs, e, hA, hb, hx, h1, h2⟩
  · exact .inl h
  · exact .inr ⟨g, cap, cs, e, hA, hb.turned ht, hx, h1, h2⟩
theorem HIn.turned {A : Nat → Prop} {w w' : World} {x : Hv} {h : Hd} {M : Nat} (hh : HIn A w x h) (ht : w.mapTurned w' M) : HIn A w' x h := ⟨hh.k, hh.m, hh.o, hh.g, hh.data.turned ht, hh.bl.turned ht⟩

theorem ikey : Keyed Tryz.prog 3 := int_keyed Tryz.underlying3
theorem ikeyOf {x : Int} (h0 : -9223372036854775808 ≤ x) (h1 : x ≤ 9223372036854775807) : keyOf Tryz.prog 3 (.int .i64 x) = some (.int .i64 x) := keyOf_int_mk Tryz.underlying3 (WalkArith.wf_i64 (by omega))
section
variable {w : World} {ops : Array Oper} {rest : List Oper} {o : Oper} {a : Act} {Q : Exit → Act → World → Prop} {M c : Nat} {F : Nat → Option Hv}
/-- 'v, ok := m[i]' where i is there. -/
theorem wp_look_yes (hg : o.guard = none) (m x : Operand) (hop : o.op = Op.lookup 78 m x true) (h : MapIs w M c F) (i : Nat) (hi : (i : Int) ≤ 9223372036854775807) (y : Hv) (hF : F i = some y) (hm : a.eval m = .map (some M)) (hx : a.eval x = .int .i64 i)
    (hK : wpList Tryz.prog ops Q rest (a.put o.dst (.tuple #[hval y, .bool true])) w) : wpList Tryz.prog ops Q (o :: rest) a w := by
  obtain ⟨n, D, h1, h2, h3⟩ := h
  refine wpList_lookup_own_ok w hg m x _ hop _ _ ikey Tryz.underlying78 RH (Tryz.zeroValue98 w) (.held hv0) [] (RH_mk hv0) M n D hm h1 _ _ hx (ikeyOf (by omega) hi) fun v ps hv => ?_
  obtain ⟨z, rfl, hz⟩ := RH_inv hv
  rw [h3.at_ i y _ hF] at hz
  cases hz
  rw [h3.has_yes hF]
  exact hK
/-- 'v, ok := m[i]' where i isn't there. -/
theorem wp_look_no (hg : o.guard = none) (m x : Operand) (hop : o.op = Op.lookup 78 m x true) (h : MapIs w M c F) (i : Int) (h0 : -9223372036854775808 ≤ i) (hi : i ≤ 9223372036854775807) (hF : ∀ j : Nat, i = (j : Int) → F j = none) (hm : a.eval m = .map (some M)) (hx : a.eval x = .int .i64 i)
    (hK : wpList Tryz.prog ops Q rest (a.put o.dst (.tuple #[hval hv0, .bool false])) w) : wpList Tryz.prog ops Q (o :: rest) a w := by
  obtain ⟨n, D, h1, h2, h3⟩ := h
  refine wpList_lookup_own_ok w hg m x _ hop _ _ ikey Tryz.underlying78 RH (Tryz.zeroValue98 w) (.held hv0) [] (RH_mk hv0) M n D hm h1 _ _ hx (ikeyOf h0 hi) fun v ps hv => ?_
  obtain ⟨z, rfl, hz⟩ := RH_inv hv
  have hn := h3.has_no hF
  rw [atKey_of_not_has hn] at hz
  cases hz
  rw [hn]
  exact hK
/-- 'm[i] = v'. -/
theorem wp_put (hg : o.guard = none) (m x v : Operand) (hop : o.op = Op.mapUpdate 78 m x v) (h : MapIs w M c F) (hc : c ≤ 1000000) (i : Nat) (hi : (i : Int) ≤ 9223372036854775807) (y : Hv) (hm : a.eval m = .map (some M)) (hx : a.eval x = .int .i64 i) (hv : a.eval v = hval y)
    (hK : ∀ w', MapIs w' M (c + 1) (fset F i (some y)) → w.mapTurned w' M → wpList Tryz.prog ops Q rest (a.put o.dst undef) w') : wpList Tryz.prog ops Q (o :: rest) a w := by
  obtain ⟨n, D, h1, h2, h3⟩ := h
  exact wpList_mapUpdate_in w hg m x v _ hop _ _ ikey Tryz.underlying78 RH M n D hm h1 (by unfold maxLen; omega) _ _ _ hx hv (ikeyOf (by omega) hi) _ _ (RH_mk y) fun w' g1 g2 => hK w' ⟨_, _, g1, by omega, h3.put i y⟩ g2
/-- 'delete(m, i)'. -/
theorem wp_del (hg : o.guard = none) (m x : Operand) (hop : o.op = Op.call { callee := Callee.builtin Builtin.delete, args := #[m, x], argTypes := #[78, 3] }) (h : MapIs w M c F) (i : Nat) (hi : (i : Int) ≤ 9223372036854775807) (hm : a.eval m = .map (some M)) (hx : a.eval x = .int .i64 i)
    (hK : ∀ w', MapIs w' M c (fset F i none) → w.mapTurned w' M → wpList Tryz.prog ops Q rest (a.put o.dst (.tuple #[])) w') : wpList Tryz.prog ops Q (o :: rest) a w := by
  obtain ⟨n, D, h1, h2, h3⟩ := h
  exact wpList_delete_own w hg m x _ _ hop _ ikey Tryz.underlying78 RH M n D hm h1 _ _ hx (ikeyOf (by omega) hi) fun w' g1 g2 => hK w' ⟨_, _, g1, h2, h3.del i⟩ g2
end
/-- A map that was made just now. -/
theorem MapIs.made (w : World) : MapIs (w.alloc (.map #[] 0)) w.heap.size 0 (fun _ => none) := ⟨0, _, World.ownsMap_made _ _ _ _, Nat.le_refl _, Reads.empty⟩
end Go.Proofs.YtkmkblhmjeeaeaaGreatDoor
end

/-
  A log at rest, and what reading it, its sectors and its room, and a commit make of it. Conditions: the disk has power that never goes; the writes are right.
-/

section
set_option linter.unusedSimpArgs false
set_option linter.unusedVariables false
set_option maxRecDepth 100000
namespace Go.Proofs.YtkmkblhmjeeaeaaGreatDoor
open Go.RowKit

/-- A log at rest; so many writes, flushes and transactions at most. -/
structure Lg (ks : List B32) (B D L G n j : Nat) (S : Nat → List B8) (c : Nat) (w : World) : Prop where
  log : ∃ cw cf dn red, cw ≤ c ∧ cf ≤ c ∧ dn ≤ c ∧ Idle B D L n S cw cf w ∧ Blk w G 131 (logCells D j (1, 0) dn red)
  roots : Roots ks w
  pos : 1 < B
  baseG : B ≤ G
  size : B ≤ w.heap.size
/-- A log of so many sectors has a front, so many nodes, and so many blocks. -/
structure Geo (n j N K : Nat) : Prop where
  j0 : 2 ≤ j
  j1 : j ≤ 30
  nn : n = 1 + j + (1 + N + K)
  N0 : 1 ≤ N
  N1 : N ≤ 400
  K0 : 1 ≤ K
  n1 : n ≤ 4096
section
variable {ks : List B32} {B D L G n j N K : Nat} {S : Nat → List B8} {c : Nat} {w w' : World}
theorem Lg.below (h : Lg ks B D L G n j S c w) (hs : Below w.heap.size w w') : Lg ks B D L G n j S c w' := by
  obtain ⟨⟨cw, cf, dn, red, h1, h2, h3, h4, h5⟩, h6, h7, h8, h9⟩ := h
  exact ⟨⟨cw, cf, dn, red, h1, h2, h3, h4.below hs, h5.below hs h5.lt⟩, h6.below (hs.mono h9) h7, h7, h8, Nat.le_trans h9 hs.size⟩
theorem Lg.turned {M : Nat} (h : Lg ks B D L G n j S c w) (ht : w.mapTurned w' M) (hM : B ≤ M) : Lg ks B D L G n j S c w' := by
  obtain ⟨⟨cw, cf, dn, red, h1, h2, h3, h4, h5⟩, h6, h7, h8, h9⟩ := h
  have hb := turned_below ht hM h9
  obtain ⟨s, hd, hw, rest⟩ := h4
  refine ⟨⟨cw, cf, dn, red, h1, h2, h3, ⟨s, ⟨hd.disk.turned ht, hd.laid.turned ht, ?_, hd.baseD, hd.baseL, hd.good⟩, hw, rest⟩, h5.turned ht⟩, h6.below hb h7, h7, h8, Nat.le_trans h9 hb.size⟩
  rw [hw]
  exact World.ownsRow_nil _ _ _ _
theorem Lg.set_ {p : Addr} {u : Value} (h : Lg ks B D L G n j S c w) (hp : B ≤ p.block) (h1 : p.block ≠ D) (h2 : p.block ≠ L) (h3 : p.block ≠ G) : Lg ks B D L G n j S c (w.setCell p u) := by
  obtain ⟨⟨cw, cf, dn, red, g1, g2, g3, h4, h5⟩, h6, h7, h8, h9⟩ := h
  have hb : Below B w (w.setCell p u) := (Below.refl _ _).setCell hp u
  obtain ⟨s, hd, hw, rest⟩ := h4
  refine ⟨⟨cw, cf, dn, red, g1, g2, g3, ⟨s, ⟨hd.disk.far h1.symm u, hd.laid.far h2.symm u, ?_, hd.baseD, hd.baseL, hd.good⟩, hw, rest⟩, h5.far h3.symm u⟩, h6.below hb h7, h7, h8, Nat.le_trans h9 hb.size⟩
  rw [hw]
  exact World.ownsRow_nil _ _ _ _
theorem Lg.lt (h : Lg ks B D L G n j S c w) : D < w.heap.size ∧ L < w.heap.size ∧ G < w.heap.size := by
  obtain ⟨⟨cw, cf, dn, red, h1, h2, h3, h4, h5⟩, _⟩ := h
  exact ⟨h4.lt.2.2.1, h4.lt.2.2.2, h5.lt⟩
theorem Lg.base (h : Lg ks B D L G n j S c w) : B ≤ D ∧ B ≤ L ∧ B ≤ G := by
  obtain ⟨⟨cw, cf, dn, red, h1, h2, h3, h4, h5⟩, _, _, h8, _⟩ := h
  exact ⟨h4.lt.1, h4.lt.2.1, h8⟩
theorem Lg.mono {c' : Nat} (h : Lg ks B D L G n j S c w) (hc : c ≤ c') : Lg ks B D L G n j S c' w := by
  obtain ⟨⟨cw, cf, dn, red, h1, h2, h3, h4, h5⟩, h6, h7, h8, h9⟩ := h
  exact ⟨⟨cw, cf, dn, red, by omega, by omega, by omega, h4, h5⟩, h6, h7, h8, h9⟩
theorem Lg.sec (h : Lg ks B D L G n j S c w) {k : Nat} (hk : k < n) : (S k).length = 64 := by
  obtain ⟨⟨cw, cf, dn, red, h1, h2, h3, h4, h5⟩, _⟩ := h
  exact h4.sec hk
theorem lg_read (h : Lg ks B D L G n j S c w) (hg : Geo n j N K) (k : Nat) (hk : k < 1 + N + K) :
    Calls Tryz.prog 32 #[.pointer (some ⟨G, 0, none⟩), .int .i64 k] w fun e w' => ∃ P q, e = .returned (.tuple #[.slice P 64 q, .int .i64 0]) ∧ Bts (fun g => w.heap.size ≤ g) w' (.slice P 64 q) (dvj j S k) ∧ Below w.heap.size w w' := by
  have hl := h.sec (k := 1 + j + k) (by have := hg.nn; omega)
  obtain ⟨⟨cw, cf, dn, red, h1, h2, h3, h4, h5⟩, _⟩ := h
  refine (jread_any h4 h5 (by have := hg.nn; omega) k (by have := hg.nn; omega)).mono ?_
  rintro e w' ⟨v, rfl, hv, hb⟩
  obtain ⟨P, q, rfl, _, _⟩ := hv.form
  rw [hl] at hv ⊢
  exact ⟨P, q, rfl, hv, hb⟩
theorem lg_sectors (h : Lg ks B D L G n j S c w) (hg : Geo n j N K) :
    Calls Tryz.prog 77 #[.pointer (some ⟨G, 0, none⟩)] w fun e w' => e = .returned (.int .i64 ((1 + N + K : Nat) : Int)) ∧ Below w.heap.size w w' := by
  obtain ⟨⟨cw, cf, dn, red, h1, h2, h3, h4, h5⟩, _⟩ := h
  have := jsectors_any h4 h5 (by have := hg.nn; omega)
  rw [show n - j - 1 = 1 + N + K by have := hg.nn; omega] at this
  exact this
theorem lg_most (h : Lg ks B D L G n j S c w) (hj : j ≤ 4096) : Calls Tryz.prog 72 #[.pointer (some ⟨G, 0, none⟩)] w fun e w' => e = .returned (.int .i64 ((j / 2 : Nat) : Int)) ∧ Below w.heap.size w w' := by
  obtain ⟨⟨cw, cf, dn, red, h1, h2, h3, h4, h5⟩, _⟩ := h
  obtain ⟨g0, g1, g5, g6⟩ := log_cells h5
  clear h4 h5
  go_enter Tryz.func72, Tryz.ntmps72
  go_wp2_with (go_at_call 87; refine (jmost_any (D := D) (j := j) hj).mono ?_; rintro e w3 ⟨rfl, hb⟩; have HB := Lib.hid hb; clear hb)
  go_ret
  exact ⟨rfl, HB.out⟩
/-- A commit of right writes that the journal has room for. -/
theorem lg_commit {A : Nat → Prop} {P : Option Addr} {m q : Nat} {ws : List (Int × List B8)} (h : Lg ks B D L G n j S c w) (hg : Geo n j N K) (hc : c < 500000) (hw : Wrs A w (.slice P m q) ws) (hA : ∀ g, A g → g ∉ [D, L, G]) (hr : Right (1 + N + K) ws) (hm : m ≤ j / 2) :
    Calls Tryz.prog 28 #[.pointer (some ⟨G, 0, none⟩), .slice P m q] w fun e w' => e = .returned (.int .i64 0) ∧ (∃ S', Lg ks B D L G n j S' (c + 50) w' ∧ dvj j S' = layS (dvj j S) ws) ∧ Stp B [D, L, G] w w' := by
  obtain ⟨⟨cw, cf, dn, red, h1, h2, h3, h4, h5⟩, h6, h7, h8, h9⟩ := h
  have hj0 := hg.j0
  have hj1 := hg.j1
  have hnn := hg.nn
  have hlen := hw.len
  rw [show 1 + N + K = n - j - 1 by omega] at hr
  by_cases hm0 : 0 < m
  · refine (commit_ok ks h4 h9 h6 h7 h8 h5 hw hA hr (by omega) hm0 hm (by omega) (by omega) (by omega) (by omega)).mono ?_
    rintro e w' ⟨rfl, g1, g2, g3⟩
    refine ⟨rfl, ⟨_, ⟨⟨_, _, _, red, ?_, ?_, ?_, g1, g2⟩, h6.below g3.below h7, h7, h8, Nat.le_trans h9 g3.size⟩, ibehind_data ks j _ _ S ws (by omega)⟩, g3⟩ <;> omega
  · obtain rfl : m = 0 := by omega
    obtain rfl : ws = [] := List.eq_nil_of_length_eq_zero hlen
    refine (commit_none h4 h5 hw (by omega) (by omega)).mono ?_
    rintro e w' ⟨rfl, hb⟩
    exact ⟨rfl, ⟨S, (Lg.below ⟨⟨cw, cf, dn, red, h1, h2, h3, h4, h5⟩, h6, h7, h8, h9⟩ hb).mono (by omega), rfl⟩, Stp.of_below h9 hb⟩
/-- .. that it hasn't. -/
theorem lg_full {A : Nat → Prop} {P : Option Addr} {m q : Nat} {ws : List (Int × List B8)} (h : Lg ks B D L G n j S c w) (hg : Geo n j N K) (hw : Wrs A w (.slice P m q) ws) (hr : Right (1 + N + K) ws) (hm : j / 2 < m) :
    Calls Tryz.prog 28 #[.pointer (some ⟨G, 0, none⟩), .slice P m q] w fun e w' => e = .returned (.int .i64 6) ∧ Below w.heap.size w w' := by
  obtain ⟨⟨cw, cf, dn, red, h1, h2, h3, h4, h5⟩, h6, h7, h8, h9⟩ := h
  have hnn := hg.nn
  rw [show 1 + N + K = n - j - 1 by omega] at hr
  exact commit_full h4 h5 hw hr (by omega) hm
end
end Go.Proofs.YtkmkblhmjeeaeaaGreatDoor
end
