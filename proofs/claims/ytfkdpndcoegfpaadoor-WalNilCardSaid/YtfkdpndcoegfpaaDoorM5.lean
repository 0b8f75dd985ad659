/-
  The memory words of the log: what a step of a disk leaves, slices of bytes, lists of writes, a disk at rest. Plain theorems on worlds; no condition.
-/
import Derived.Test.YtfkdpndcoegfpaaDoorM4
import Derived.Test.YtfkdpndcoegfpaaDoorM3
import Derived.RangeFuncOwn
import Derived.Deep.RegionHeld3
import Derived.Deep.QuietTactic
import Derived.BigQuiet
import Derived.IntWalk
import Derived.Outline
import Derived.Lib.Hide
import Derived.Deep.AppendLies
import Derived.Deep.RegionLaw
import Derived.PlainAid
import Derived.Deep.DeepCutAuto
import Derived.Deep.CutBlock
section
set_option maxRecDepth 100000
set_option linter.unusedSimpArgs false
set_option linter.unusedVariables false
namespace Go.Proofs.YtfkdpndcoegfpaaDoor
open Go.RowKit

/-- Below B nothing has turned; a block that is not of X and holds no waiting writes is as it was. -/
structure Stp (B : Nat) (X : List Nat) (w w' : World) : Prop where
  below : Below B w w'
  keep : ∀ g t cs, t ≠ 75 → g ∉ X → Blk w g t cs → Blk w' g t cs
  others : ∀ (g : Nat) (o : Obj), w.heap[g]? = some o → o.isCells = false → w'.heap[g]? = some o
theorem Stp.refl (B : Nat) (X : List Nat) (w : World) : Stp B X w w := ⟨Below.refl _ _, fun _ _ _ _ _ h => h, fun _ _ h _ => h⟩
theorem Stp.trans {B : Nat} {X : List Nat} {a b c : World} (h : Stp B X a b) (k : Stp B X b c) : Stp B X a c :=
  ⟨h.below.trans k.below, fun g t cs h1 h2 hb => k.keep g t cs h1 h2 (h.keep g t cs h1 h2 hb), fun g o h1 h2 => k.others g o (h.others g o h1 h2) h2⟩
theorem Stp.size {B : Nat} {X : List Nat} {w w' : World} (h : Stp B X w w') : w.heap.size ≤ w'.heap.size := h.below.size
theorem Stp.mono {B : Nat} {X Y : List Nat} {w w' : World} (h : Stp B X w w') (hX : ∀ g, g ∈ X → g < w.heap.size → g ∈ Y) : Stp B Y w w' :=
  ⟨h.below, fun g t cs h1 h2 hb => h.keep g t cs h1 (fun hg => h2 (hX g hg hb.lt)) hb, h.others⟩
theorem Stp.lower {B C : Nat} {X : List Nat} {w w' : World} (h : Stp B X w w') (hC : C ≤ B) : Stp C X w w' := ⟨h.below.mono hC, h.keep, h.others⟩
theorem Stp.of_below {B : Nat} {X : List Nat} {w w' : World} (hB : B ≤ w.heap.size) (h : Below w.heap.size w w') : Stp B X w w' := ⟨h.mono hB, fun _ _ _ _ _ hb => hb.below h hb.lt, fun g o h1 _ => (h.block g (Array.getElem?_eq_some_iff.1 h1).1).trans h1⟩
theorem Stp.of_only {B : Nat} {X S : List Nat} {w w' : World} (h : Only S w w') (hB : B ≤ w.heap.size) (hS : ∀ k, k ∈ S → B ≤ k)
    (hX : ∀ k, k ∈ S → k ∈ X ∨ ∀ t cs, Blk w k t cs → t = 75) (hC : ∀ k, k ∈ S → ∀ o : Obj, w.heap[k]? = some o → o.isCells = true) : Stp B X w w' :=
  ⟨h.below hB hS, fun g t cs h1 h2 hb => hb.only h fun hg => by
    rcases hX g hg with e | e
    · exact h2 e
    · exact h1 (e t cs hb), fun g o h1 h2 => (h.block g (Array.getElem?_eq_some_iff.1 h1).1 fun hg => by rw [hC g hg o h1] at h2; cases h2).trans h1⟩
theorem blk_cells {w : World} {g : Nat} {t : TypeId} {cs : List Value} (h : Blk w g t cs) {o : Obj} (ho : w.heap[g]? = some o) : o.isCells = true := by
  unfold Blk at h
  rw [h] at ho
  cases ho
  rfl
theorem own_cells {w : World} {N e cells n : Nat} {v : Value} {ys : List Value} (h : w.ownsRow N e cells v n ys) {k : Nat} (hk : v.ownBlock = some k) {o : Obj} (ho : w.heap[k]? = some o) : o.isCells = true := by
  rcases h.2 with ⟨rfl, _⟩ | ⟨g, cap, cur, rfl, _, hb, _⟩
  · cases hk
  · cases hk
    rw [hb] at ho
    cases ho
    rfl
theorem drewN_below (w : World) (n : Nat) : Below w.heap.size w (w.drewN n) := ⟨rfl, rfl, rfl, Nat.le_refl _, fun _ _ => rfl⟩
theorem drew_below (w : World) : Below w.heap.size w w.drew := ⟨rfl, rfl, rfl, Nat.le_refl _, fun _ _ => rfl⟩
theorem new_below (w : World) (o : Obj) : Below w.heap.size w (w.alloc o) := (Below.refl _ _).alloc (Nat.le_refl _) _

theorem U_Vb (xs : List B8) : U (xs.map nb) = Vb xs := by simp [U, Vb]
theorem map_nb_inj {xs ys : List B8} (h : xs.map nb = ys.map nb) : xs = ys := (List.map_inj_right (fun a b hab => nb_inj hab)).1 h

/-- The kinds of blocks in which bytes lie. -/
def BK (t : TypeId) : Prop := t = 5 ∨ t = 80
theorem BK.ne {t k : TypeId} (h : BK t) (h1 : k ≠ 5) (h2 : k ≠ 80) : t ≠ k := by
  rcases h with rfl | rfl
  · exact fun e => h1 e.symm
  · exact fun e => h2 e.symm
/-- A slice of bytes: nil, or in a block of bytes that A allows. -/
def Bts (A : Nat → Prop) (w : World) (v : Value) (xs : List B8) : Prop :=
  (v = .slice none 0 0 ∧ xs = []) ∨ ∃ g o cap t cs, v = .slice (some ⟨g, o, none⟩) xs.length cap ∧ A g ∧ BK t ∧ Blk w g t cs ∧ (cs.drop o).take xs.length = Vb xs ∧ xs.length ≤ cap ∧ cap ≤ maxLen
section
variable {A : Nat → Prop} {w w' : World} {v : Value} {xs : List B8}
theorem Bts.empty (A : Nat → Prop) (w : World) : Bts A w (.slice none 0 0) [] := .inl ⟨rfl, rfl⟩
theorem Bts.stp {B : Nat} {X : List Nat} (h : Bts A w v xs) (hs : Stp B X w w') (hX : ∀ g, A g → g ∉ X) : Bts A w' v xs := by
  rcases h with h | ⟨g, o, cap, t, cs, e, hA, hn, hb, ht, h1, h2⟩
  · exact .inl h
  · exact .inr ⟨g, o, cap, t, cs, e, hA, hn, hs.keep g t cs (hn.ne (by decide) (by decide)) (hX g hA) hb, ht, h1, h2⟩
theorem Bts.below (h : Bts A w v xs) (hs : Below w.heap.size w w') : Bts A w' v xs := by
  rcases h with h | ⟨g, o, cap, t, cs, e, hA, hn, hb, ht, h1, h2⟩
  · exact .inl h
  · exact .inr ⟨g, o, cap, t, cs, e, hA, hn, hb.below hs hb.lt, ht, h1, h2⟩
theorem Bts.mono {A' : Nat → Prop} (h : Bts A w v xs) (hA : ∀ g, A g → g < w.heap.size → A' g) : Bts A' w v xs := by
  rcases h with h | ⟨g, o, cap, t, cs, e, ha, hn, hb, ht, h1, h2⟩
  · exact .inl h
  · exact .inr ⟨g, o, cap, t, cs, e, hA g ha hb.lt, hn, hb, ht, h1, h2⟩
theorem Bts.form (h : Bts A w v xs) : ∃ P c, v = .slice P xs.length c ∧ xs.length ≤ c ∧ c ≤ 9223372036854775807 := by
  rcases h with ⟨rfl, rfl⟩ | ⟨g, o, cap, t, cs, rfl, _, _, _, _, h1, h2⟩
  · exact ⟨Option.none, 0, rfl, Nat.le_refl _, by omega⟩
  · exact ⟨some ⟨g, o, Option.none⟩, cap, rfl, h1, by unfold maxLen at h2; omega⟩
theorem Bts.cells {P : Option Addr} {n c : Nat} (h : Bts A w (.slice P n c) xs) : xs.length = n ∧ (0 < n → ∃ g o, P = some ⟨g, o, Option.none⟩ ∧ A g ∧ g < w.heap.size ∧ ∀ j u, (Vb xs)[j]? = some u → w.cell? ⟨g, o + j, Option.none⟩ = some u) := by
  rcases h with ⟨e, rfl⟩ | ⟨g, o, cap, t, cs, e, hA, hn, hb, ht, h1, h2⟩
  · cases e
    exact ⟨rfl, fun h => absurd h (by omega)⟩
  · cases e
    refine ⟨rfl, fun _ => ⟨g, o, rfl, hA, hb.lt, fun j u hu => ?_⟩⟩
    rw [hb.cell]
    rw [← ht, List.getElem?_take] at hu
    split at hu
    · rw [List.getElem?_drop] at hu
      exact hu
    · cases hu
theorem Bts.txtN {P : Option Addr} {n c : Nat} (h : Bts A w (.slice P n c) xs) (p : Nat) (hp : ∀ g, A g → g < w.heap.size → g ≠ p) : TxtN w p P n c xs := by
  have hc := h.cells
  obtain ⟨P', c', e, h1, h2⟩ := h.form
  cases e
  refine ⟨⟨rfl, h1, by unfold maxLen; omega, fun hn => ?_⟩, fun hP => ?_⟩
  · obtain ⟨g, o, rfl, hA, hlt, hcell⟩ := hc.2 hn
    refine ⟨g, o, rfl, hp g hA hlt, fun j hj => hcell j _ ?_⟩
    rw [Vb_get, List.getD_eq_getElem?_getD, List.getElem?_eq_getElem hj]
    rfl
  · rcases h with ⟨e, rfl⟩ | ⟨g, o, cap, t, cs, e, _⟩
    · cases e; exact ⟨rfl, rfl⟩
    · cases e; cases hP
theorem Bts.txtNew {P : Option Addr} {n c : Nat} (h : Bts A w (.slice P n c) xs) : TxtN w w.heap.size P n c xs := h.txtN _ fun g _ hlt => by omega
theorem Bts.of_own {N : Nat} (h : w.ownsRow N 5 1 v xs.length (Vb xs)) : Bts (fun g => N ≤ g) w v xs := by
  rcases h.2 with ⟨rfl, hn⟩ | ⟨g, cap, cur, rfl, hg, hb, h1, h2, _, ht⟩
  · exact .inl ⟨rfl, List.eq_nil_of_length_eq_zero hn⟩
  · refine .inr ⟨g, 0, cap, _, cur.toList, rfl, hg, (.inl rfl), by simpa [Blk] using hb, ?_, h1, h2⟩
    rw [List.drop_zero]
    simpa [Vb_length] using ht
theorem Bts.of_has {N : Nat} {ys : List Int} (h : HasBytes N w v ys) (hy : ys = xs.map nb) (hc : ∀ g n c, v = .slice (some ⟨g, 0, Option.none⟩) n c → n ≤ c ∧ c ≤ maxLen) : Bts (fun g => N ≤ g) w v xs := by
  subst hy
  obtain ⟨g, cap, cs, rfl, hg, hb, ht⟩ := h
  have := hc _ _ _ rfl
  rw [List.length_map] at this ht
  refine .inr ⟨g, 0, cap, _, cs, by rw [List.length_map], hg, (.inl rfl), hb, ?_, this.1, this.2⟩
  rw [List.drop_zero, ht, U_Vb]
theorem Bts.of_blk {g o n t : Nat} {cs : List Value} (hb : Blk w g t cs) (ht : BK t) (hA : A g) (hx : (cs.drop o).take xs.length = Vb xs) (hn : xs.length = n) {c : Nat} (h1 : n ≤ c) (h2 : c ≤ maxLen) : Bts A w (.slice (some ⟨g, o, Option.none⟩) n c) xs := by
  subst hn
  exact .inr ⟨g, o, c, t, cs, rfl, hA, ht, hb, hx, h1, h2⟩
end

/-- A list of writes: nil, or in a block of writes that A allows, each write's bytes likewise. -/
def Wrs (A : Nat → Prop) (w : World) (v : Value) (ws : List (Int × List B8)) : Prop :=
  (v = .slice none 0 0 ∧ ws = []) ∨ ∃ g cap cs, v = .slice (some ⟨g, 0, none⟩) ws.length cap ∧ A g ∧ Blk w g 55 cs ∧ ws.length ≤ cap ∧ cap ≤ maxLen ∧
    ∀ i p, ws[i]? = some p → cs[i * 2]? = some (.int .i64 p.1) ∧ ∃ u, cs[i * 2 + 1]? = some u ∧ Bts A w u p.2
section
variable {A : Nat → Prop} {w w' : World} {v : Value} {ws : List (Int × List B8)}
theorem Wrs.stp {B : Nat} {X : List Nat} (h : Wrs A w v ws) (hs : Stp B X w w') (hX : ∀ g, A g → g ∉ X) : Wrs A w' v ws := by
  rcases h with h | ⟨g, cap, cs, e, hA, hb, h1, h2, hc⟩
  · exact .inl h
  · refine .inr ⟨g, cap, cs, e, hA, hs.keep g _ cs (by decide) (hX g hA) hb, h1, h2, fun i p hp => ?_⟩
    obtain ⟨c0, u, c1, hu⟩ := hc i p hp
    exact ⟨c0, u, c1, hu.stp hs hX⟩
theorem Wrs.below (h : Wrs A w v ws) (hs : Below w.heap.size w w') : Wrs A w' v ws := by
  rcases h with h | ⟨g, cap, cs, e, hA, hb, h1, h2, hc⟩
  · exact .inl h
  · refine .inr ⟨g, cap, cs, e, hA, hb.below hs hb.lt, h1, h2, fun i p hp => ?_⟩
    obtain ⟨c0, u, c1, hu⟩ := hc i p hp
    exact ⟨c0, u, c1, hu.below hs⟩
theorem Wrs.mono {A' : Nat → Prop} (h : Wrs A w v ws) (hA : ∀ g, A g → g < w.heap.size → A' g) : Wrs A' w v ws := by
  rcases h with h | ⟨g, cap, cs, e, ha, hb, h1, h2, hc⟩
  · exact .inl h
  · refine .inr ⟨g, cap, cs, e, hA g ha hb.lt, hb, h1, h2, fun i p hp => ?_⟩
    obtain ⟨c0, u, c1, hu⟩ := hc i p hp
    exact ⟨c0, u, c1, hu.mono hA⟩
theorem Wrs.form (h : Wrs A w v ws) : ∃ P c, v = .slice P ws.length c ∧ ws.length ≤ c ∧ c ≤ 9223372036854775807 := by
  rcases h with ⟨rfl, rfl⟩ | ⟨g, cap, cs, rfl, _, _, h1, h2, _⟩
  · exact ⟨none, 0, rfl, Nat.le_refl _, by omega⟩
  · exact ⟨some ⟨g, 0, none⟩, cap, rfl, h1, by unfold maxLen at h2; omega⟩
theorem Wrs.at_ {P : Option Addr} {n c : Nat} (h : Wrs A w (.slice P n c) ws) {i : Nat} {p : Int × List B8} (hp : ws[i]? = some p) :
    ∃ g Q m k, P = some ⟨g, 0, none⟩ ∧ g < w.heap.size ∧ A g ∧ w.cell? ⟨g, i * 2, none⟩ = some (.int .i64 p.1) ∧ w.cell? ⟨g, i * 2 + 1, none⟩ = some (.slice Q m k) ∧ p.2.length = m ∧ Bts A w (.slice Q m k) p.2 ∧ m ≤ k ∧ k ≤ 9223372036854775807 := by
  rcases h with ⟨e, rfl⟩ | ⟨g, cap, cs, e, hA, hb, h1, h2, hc⟩
  · simp at hp
  · cases e
    obtain ⟨c0, u, c1, hu⟩ := hc i p hp
    obtain ⟨Q, k, rfl, h3, h4⟩ := hu.form
    exact ⟨g, Q, p.2.length, k, rfl, hb.lt, hA, by rw [hb.cell, c0], by rw [hb.cell, c1], rfl, hu, h3, h4⟩
theorem Wrs.len {P : Option Addr} {n c : Nat} (h : Wrs A w (.slice P n c) ws) : ws.length = n := by
  obtain ⟨P', c', e, _⟩ := h.form
  cases e
  rfl
end

/-- A disk with power that never goes: S is what is read of its n sectors; so many writes and flushes were done. -/
def Calm (B D L n : Nat) (S : Nat → List B8) (wr fl : Nat) (w : World) : Prop :=
  ∃ s, Live B D L s w ∧ s.on = true ∧ s.armed = false ∧ s.n = n ∧ (∀ k, k < n → seen s k = (S k).map nb) ∧ s.waits.length ≤ wr ∧ s.wr = wr ∧ s.fl = fl
/-- The same, and nothing waits. -/
def Idle (B D L n : Nat) (S : Nat → List B8) (wr fl : Nat) (w : World) : Prop :=
  ∃ s, IsDisk B w D L (.slice none 0 0) s ∧ s.waits = [] ∧ s.on = true ∧ s.armed = false ∧ s.n = n ∧ (∀ k, k < n → seen s k = (S k).map nb) ∧ s.wr = wr ∧ s.fl = fl
def upd (S : Nat → List B8) (k : Nat) (b : List B8) : Nat → List B8 := fun i => if i = k then b else S i

section
variable {B D L n : Nat} {S : Nat → List B8} {wr fl : Nat} {w w' : World}
theorem Idle.calm (h : Idle B D L n S wr fl w) : Calm B D L n S wr fl w := by
  obtain ⟨s, hd, hw, h1, h2, h3, h4, h5, h6⟩ := h
  exact ⟨s, ⟨_, hd⟩, h1, h2, h3, h4, by rw [hw]; simp, h5, h6⟩
theorem Idle.stp {C : Nat} {X : List Nat} (h : Idle B D L n S wr fl w) (hs : Stp C X w w') (hD : D ∉ X) (hL : L ∉ X) : Idle B D L n S wr fl w' := by
  obtain ⟨s, hd, hw, rest⟩ := h
  refine ⟨s, ⟨hs.keep D _ _ (by decide) hD hd.disk, hs.keep L _ _ (by decide) hL hd.laid, ?_, hd.baseD, hd.baseL, hd.good⟩, hw, rest⟩
  rw [hw]
  exact World.ownsRow_nil _ _ _ _
theorem Idle.below (h : Idle B D L n S wr fl w) (hs : Below w.heap.size w w') : Idle B D L n S wr fl w' := h.stp (X := []) (Stp.of_below (Nat.le_refl _) hs) (by simp) (by simp)
theorem Calm.below (h : Calm B D L n S wr fl w) (hs : Below w.heap.size w w') : Calm B D L n S wr fl w' := by
  obtain ⟨s, hl, rest⟩ := h
  exact ⟨s, hl.below hs, rest⟩
theorem Calm.lt (h : Calm B D L n S wr fl w) : B ≤ D ∧ B ≤ L ∧ D < w.heap.size ∧ L < w.heap.size := by
  obtain ⟨s, hl, _⟩ := h
  exact hl.lt
theorem Idle.lt (h : Idle B D L n S wr fl w) : B ≤ D ∧ B ≤ L ∧ D < w.heap.size ∧ L < w.heap.size := h.calm.lt
theorem Idle.ne (h : Idle B D L n S wr fl w) : L ≠ D := by
  obtain ⟨s, hd, _⟩ := h
  exact hd.laid.ne_ hd.disk (by decide)
theorem seen_length {s : St} (hg : Good s) {k : Nat} (hk : k < s.n) : (seen s k).length = 64 := by
  unfold seen
  split
  · rename_i p hp
    have := List.mem_of_find?_eq_some hp
    exact (hg.sec p (by simpa using this)).2.2
  · rw [List.length_take, List.length_drop, hg.size]
    omega
theorem Calm.sec (h : Calm B D L n S wr fl w) {k : Nat} (hk : k < n) : (S k).length = 64 := by
  obtain ⟨s, hl, _, _, h3, h4, _⟩ := h
  have := seen_length hl.good (k := k) (by omega)
  rw [h4 k hk, List.length_map] at this
  exact this
theorem Idle.sec (h : Idle B D L n S wr fl w) {k : Nat} (hk : k < n) : (S k).length = 64 := h.calm.sec hk
theorem Idle.same {S' : Nat → List B8} (h : Idle B D L n S wr fl w) (hS : ∀ k, k < n → S' k = S k) : Idle B D L n S' wr fl w := by
  obtain ⟨s, hd, hw, h1, h2, h3, h4, h5, h6⟩ := h
  exact ⟨s, hd, hw, h1, h2, h3, fun k hk => by rw [hS k hk]; exact h4 k hk, h5, h6⟩
theorem Idle.bound (h : Idle B D L n S wr fl w) : 1 ≤ n ∧ n ≤ 4096 := by
  obtain ⟨s, hd, _, _, _, h3, _⟩ := h
  have := hd.good.n1
  have := hd.good.n2
  omega

theorem DiskPost.stp {s s' : St} {Y : List Nat} {wv : Value} (hd : IsDisk B w D L wv s) (h : DiskPost B D L Y w s' w') (hB : B ≤ w.heap.size)
    (hY : ∀ k, k ∈ Y → k = D ∨ k = L ∨ wv.ownBlock = some k) : Live B D L s' w' ∧ Stp B [D, L] w w' := by
  obtain ⟨wv', h1, h2⟩ := h
  refine ⟨⟨wv', h1⟩, Stp.of_only h2 hB ?_ ?_ ?_⟩
  · intro k hk
    rcases hY k hk with rfl | rfl | hk
    · exact hd.baseD
    · exact hd.baseL
    · exact (hd.own.lt k hk).1
  · intro k hk
    rcases hY k hk with rfl | rfl | hk
    · exact .inl (by simp)
    · exact .inl (by simp)
    · refine .inr fun t cs hb => ?_
      by_cases ht : t = 75
      · exact ht
      · exact absurd hk (own_blk_ne hd.own hb (fun e => ht e.symm))
  · intro k hk o ho
    rcases hY k hk with rfl | rfl | hk
    · exact blk_cells hd.disk ho
    · exact blk_cells hd.laid ho
    · exact own_cells hd.own hk ho

theorem write_calm (hd : Calm B D L n S wr fl w) (hB : B ≤ w.heap.size) {A : Nat → Prop} {no : Int} {bs : List B8} {P : Option Addr} {m c : Nat} (hb : Bts A w (.slice P m c) bs) (hA : ∀ g, A g → g ≠ D)
    (h1 : 0 ≤ no) (h2 : no < n) (h64 : bs.length = 64) (hwr : wr < 1000000) :
    Calls Tryd.prog 35 #[.pointer (some ⟨D, 0, none⟩), .int .i64 no, .slice P m c] w fun e w' => e = .returned (.int .i64 0) ∧ Calm B D L n (upd S no.toNat bs) (wr + 1) fl w' ∧ Stp B [D, L] w w' := by
  obtain ⟨s, ⟨wv, hl⟩, g1, g2, g3, g4, g5, g6, g7⟩ := hd
  obtain ⟨hm, hc⟩ := hb.cells
  obtain ⟨g, o, rfl, hAg, hlt, hcell⟩ := hc (by omega)
  refine (write_any B w D L wv s no (bs.map nb) (some ⟨g, o, none⟩) m c hl hB (by rw [List.length_map]; exact hm) (fun _ => ⟨_, rfl, hA g hAg, fun j u hu => ?_⟩) (by omega) (by omega)).mono fun e w' ⟨he, hp⟩ => ?_
  · rw [U_Vb] at hu
    rw [add_off]
    exact hcell j u hu
  · have hw : s.write no (bs.map nb) = (0, { s with left := nextLeft s.armed s.left, waits := s.waits ++ [(no, bs.map nb)], wr := s.wr + 1 }) := by
      unfold St.write
      rw [if_neg (by rw [g1]; decide), if_neg (fun h => h ⟨h1, by omega, by rw [List.length_map]; exact h64⟩), if_neg (fun h => by rw [g2] at h; exact absurd h.1 (by decide))]
    rw [hw] at he hp
    obtain ⟨hlive, hstp⟩ := DiskPost.stp hl hp hB (by intro k hk; simp at hk; rcases hk with h | h <;> simp [h])
    refine ⟨he, ⟨_, hlive, g1, g2, g3, fun k hk => ?_, by simp; omega, by simp [g6], g7⟩, hstp⟩
    rw [seen_write (s := s) (no := no.toNat) (bs := bs.map nb) hl.good (by omega) (by rw [List.length_map]; exact h64) (by omega) hlive.good rfl rfl (by rw [show ((no.toNat : Nat) : Int) = no by omega])]
    unfold upd
    by_cases hk' : k = no.toNat
    · rw [if_pos hk', if_pos hk']
    · rw [if_neg hk', if_neg hk']
      exact g4 k hk

theorem flush_calm (hd : Calm B D L n S wr fl w) (hB : B ≤ w.heap.size) (hfl : fl < 1000000) :
    Calls Tryd.prog 36 #[.pointer (some ⟨D, 0, none⟩)] w fun e w' => e = .returned (.int .i64 0) ∧ Idle B D L n S wr (fl + 1) w' ∧ Stp B [D, L] w w' := by
  obtain ⟨s, ⟨wv, hl⟩, g1, g2, g3, g4, g5, g6, g7⟩ := hd
  refine (flush_bare B w D L wv s hl g1 (fun h => by rw [g2] at h; exact absurd h.1 (by decide)) (by omega)).mono fun e w' ⟨he, hd', ho⟩ => ?_
  refine ⟨he, ⟨_, hd', rfl, g1, g2, g3, fun k hk => ?_, g6, by simp [g7]⟩, Stp.of_only ho hB ?_ ?_ ?_⟩
  · rw [seen_laid hl.good (by omega) hd'.good rfl rfl rfl]
    exact g4 k hk
  · intro k hk
    simp only [List.mem_cons, List.not_mem_nil, or_false] at hk
    rcases hk with rfl | rfl
    · exact hl.baseD
    · exact hl.baseL
  · exact fun k hk => .inl hk
  · intro k hk obj hobj
    simp only [List.mem_cons, List.not_mem_nil, or_false] at hk
    rcases hk with rfl | rfl
    · exact blk_cells hl.disk hobj
    · exact blk_cells hl.laid hobj

theorem read_calm (hd : Calm B D L n S wr fl w) {k : Nat} (hk : k < n) :
    Calls Tryd.prog 14 #[.pointer (some ⟨D, 0, none⟩), .int .i64 k] w fun e w' => ∃ v, e = .returned (.tuple #[v, .int .i64 0]) ∧ Bts (fun g => w.heap.size ≤ g) w' v (S k) ∧ Below w.heap.size w w' := by
  obtain ⟨s, ⟨wv, hl⟩, g1, g2, g3, g4, g5, g6, g7⟩ := hd
  refine (read_ok B w D L wv s k hl g1 (by omega)).mono fun e w' ⟨v, he, h1, h2, h3⟩ => ⟨v, he, ?_, h3⟩
  rw [g4 k hk, U_Vb, List.length_map] at h1
  exact Bts.of_own h1

theorem new_idle (w : World) (n : Nat) (h1 : 1 ≤ n) (h2 : n ≤ 4096) : Calls Tryd.prog 18 #[.int .i64 n] w fun e w' => e = .returned (.tuple #[.pointer (some ⟨w.heap.size + 1, 0, none⟩), .int .i64 0]) ∧
    Idle w.heap.size (w.heap.size + 1) w.heap.size n (fun _ => List.replicate 64 0) 0 0 w' ∧ Below w.heap.size w w' :=
  (new_ok w n h1 h2).mono fun _ _ ⟨he, hd, hb⟩ => ⟨he, ⟨_, hd, rfl, rfl, rfl, rfl, fun k hk => by
    unfold seen fresh
    simp only [List.reverse_nil, List.find?_nil, List.drop_replicate, List.take_replicate, List.map_replicate]
    rw [Nat.min_eq_left (by omega)]
    simp [nb], rfl, rfl⟩, hb⟩

theorem on_idle (hd : Calm B D L n S wr fl w) : Calls Tryd.prog 12 #[.pointer (some ⟨D, 0, none⟩)] w fun e w' => e = .returned (.bool true) ∧ w = w' := by
  obtain ⟨s, ⟨wv, hl⟩, g1, _⟩ := hd
  have c0 := (dk_cells hl.disk).1
  rw [g1] at c0
  exact on_any w D true c0
theorem sectors_idle (hd : Calm B D L n S wr fl w) : Calls Tryd.prog 42 #[.pointer (some ⟨D, 0, none⟩)] w fun e w' => e = .returned (.int .i64 n) ∧ w = w' := by
  obtain ⟨s, ⟨wv, hl⟩, _, _, g3, _⟩ := hd
  have c3 := (dk_cells hl.disk).2.2.2.1
  rw [g3] at c3
  exact sectors_any w D L n s.lc (by have := hl.good.n2; omega) c3
end
end Go.Proofs.YtfkdpndcoegfpaaDoor
end

/-
  The small methods of the log's layout: numbers of sectors. Conditions: the disk has power that never goes; the journal leaves a data sector.
-/

section
set_option maxRecDepth 100000
set_option linter.unusedSimpArgs false
set_option linter.unusedVariables false
namespace Go.Proofs.YtfkdpndcoegfpaaDoor
open Go.RowKit

/-- A layout as a value. -/
abbrev lay_ (D j : Nat) : Value := .agg #[.pointer (some ⟨D, 0, none⟩), .int .i64 j]
theorem ret_int {k : IntKind} {a b : Int} (h : a = b) : Ending.returned (.int k a) = .returned (.int k b) := by rw [h]

section
variable {B D L n j : Nat} {S : Nat → List B8} {wr fl : Nat} {w : World}
theorem data_any (hd : Calm B D L n S wr fl w) (hj : j + 1 < n) (hn : n ≤ 4096) :
    Calls Tryd.prog 24 #[lay_ D j] w fun e w' => e = .returned (.int .i64 ((n - j - 1 : Nat) : Int)) ∧ Below w.heap.size w w' := by
  have hb := new_below w (.cells #[.pointer (some ⟨D, 0, none⟩), .int .i64 (j : Int)] 35)
  have HD := Lib.hid (hd.below hb)
  have HB := Lib.hid hb
  have h1 : IntKind.i64.wrap ((n : Int) - (j : Int)) = (n : Int) - (j : Int) := IntWalk.i64_in _ (by omega)
  have h2 : IntKind.i64.wrap ((n : Int) - (j : Int) - 1) = (n : Int) - (j : Int) - 1 := IntWalk.i64_in _ (by omega)
  clear hd hb
  go_enter Tryd.func24, Tryd.ntmps24
  go_wp2_with fail
  go_quiet ((go_at_call 42; exact Calls.quiet_of_same ((sectors_idle (HD.out.below (drewN_below _ _))).mono fun e w' ⟨h1, h2⟩ => ⟨h1, h2.symm⟩)))
  go_wp2_with fail
  go_ret
  exact ⟨ret_int (by omega), HB.out.trans ((drewN_below _ _).mono HB.out.size)⟩

theorem has_yes (hd : Calm B D L n S wr fl w) (hj : j + 1 < n) (hn : n ≤ 4096) (no : Int) (h0 : 0 ≤ no) (h1 : no < (n - j - 1 : Nat)) :
    Calls Tryd.prog 13 #[lay_ D j, .int .i64 no] w fun e w' => e = .returned (.bool true) ∧ Below w.heap.size w w' := by
  have hb := new_below w (.cells #[.pointer (some ⟨D, 0, none⟩), .int .i64 (j : Int)] 35)
  have HD := Lib.hid (hd.below hb)
  have HB := Lib.hid hb
  clear hd hb
  go_enter Tryd.func13, Tryd.ntmps13
  go_wp2_with (go_at_call 24; refine (data_any HD.out hj hn).mono ?_; rintro e w' ⟨rfl, hb2⟩; have HB2 := Lib.hid (HB.out.trans (hb2.mono HB.out.size)); clear hb2)
  go_ret
  exact ⟨rfl, HB2.out⟩
theorem has_no (hd : Calm B D L n S wr fl w) (hj : j + 1 < n) (hn : n ≤ 4096) (no : Int) (h : ¬ (0 ≤ no ∧ no < (n - j - 1 : Nat))) :
    Calls Tryd.prog 13 #[lay_ D j, .int .i64 no] w fun e w' => e = .returned (.bool false) ∧ Below w.heap.size w w' := by
  have hb := new_below w (.cells #[.pointer (some ⟨D, 0, none⟩), .int .i64 (j : Int)] 35)
  have HD := Lib.hid (hd.below hb)
  have HB := Lib.hid hb
  clear hd hb
  by_cases h0 : 0 ≤ no
  · have h1 : decide (no < ((n - j - 1 : Nat) : Int)) = false := by simp; omega
    clear h
    go_enter Tryd.func13, Tryd.ntmps13
    go_wp2_with (go_at_call 24; refine (data_any HD.out hj hn).mono ?_; rintro e w' ⟨rfl, hb2⟩; have HB2 := Lib.hid (HB.out.trans (hb2.mono HB.out.size)); clear hb2)
    go_ret
    exact ⟨rfl, HB2.out⟩
  · have hd0 : decide (0 ≤ no) = false := by simpa using h0
    clear h
    go_enter Tryd.func13, Tryd.ntmps13
    go_wp2_with fail
    go_ret
    exact ⟨rfl, HB.out⟩
theorem dataAt_any (no : Nat) (hj : j ≤ 4096) (hn : no ≤ 4096) :
    Calls Tryd.prog 15 #[lay_ D j, .int .i64 no] w fun e w' => e = .returned (.int .i64 ((1 + j + no : Nat) : Int)) ∧ Below w.heap.size w w' := by
  have HB := Lib.hid (new_below w (.cells #[.pointer (some ⟨D, 0, none⟩), .int .i64 (j : Int)] 35))
  go_enter Tryd.func15, Tryd.ntmps15
  go_wp2_with fail
  go_ret
  exact ⟨ret_int (by omega), HB.out⟩
theorem noteAt_any (p : Nat) (hp : p ≤ 4096) :
    Calls Tryd.prog 38 #[lay_ D j, .int .i64 p] w fun e w' => e = .returned (.int .i64 ((1 + 2 * p : Nat) : Int)) ∧ Below w.heap.size w w' := by
  have HB := Lib.hid (new_below w (.cells #[.pointer (some ⟨D, 0, none⟩), .int .i64 (j : Int)] 35))
  go_enter Tryd.func38, Tryd.ntmps38
  go_wp2_with fail
  go_ret
  exact ⟨ret_int (by omega), HB.out⟩
theorem jmost_any (hj : j ≤ 4096) :
    Calls Tryd.prog 25 #[lay_ D j] w fun e w' => e = .returned (.int .i64 ((j / 2 : Nat) : Int)) ∧ Below w.heap.size w w' := by
  have HB := Lib.hid (new_below w (.cells #[.pointer (some ⟨D, 0, none⟩), .int .i64 (j : Int)] 35))
  have h0 : (0 : Int) ≤ (j : Int) := by omega
  go_enter Tryd.func25, Tryd.ntmps25
  go_wp2_with fail
  go_ret
  exact ⟨ret_int (by omega), HB.out⟩
theorem fits_any (hd : Calm B D L n S wr fl w) (hj : j + 1 < n) (hn : n ≤ 4096) (h2 : 2 ≤ j) (h3 : j ≤ 1024) (h4 : j % 2 = 0) :
    Calls Tryd.prog 16 #[lay_ D j] w fun e w' => e = .returned (.bool true) ∧ Below w.heap.size w w' := by
  have hb := new_below w (.cells #[.pointer (some ⟨D, 0, none⟩), .int .i64 (j : Int)] 35)
  have HD := Lib.hid (hd.below hb)
  have HB := Lib.hid hb
  have h0 : (0 : Int) ≤ (j : Int) := by omega
  have h5 : (((j : Int) % 2) == 0) = true := by simp; omega
  have h6 : decide (0 < n - j - 1) = true := by simp; omega
  clear hd hb h4
  go_enter Tryd.func16, Tryd.ntmps16
  go_wp2_with (go_at_call 24; refine (data_any HD.out hj hn).mono ?_; rintro e w' ⟨rfl, hb2⟩; have HB2 := Lib.hid (HB.out.trans (hb2.mono HB.out.size)); clear hb2)
  go_ret
  exact ⟨rfl, HB2.out⟩
end
end Go.Proofs.YtfkdpndcoegfpaaDoor
end

/-
  The log's bytes, plainly: numbers, notes, heads, transactions' digests. Plain definitions and theorems; no condition.
-/

section
set_option maxRecDepth 100000
set_option linter.unusedSimpArgs false
set_option linter.unusedVariables false
namespace Go.Proofs.YtfkdpndcoegfpaaDoor
open Go.RowKit

theorem take_snoc_ {α : Type} {ws : List α} {i : Nat} {p : α} (h : ws[i]? = some p) : ws.take (i + 1) = ws.take i ++ [p] := by
  obtain ⟨hi, rfl⟩ := List.getElem?_eq_some_iff.1 h
  exact List.take_succ_eq_append_getElem hi

/-- Byte j of a number of so many bytes, the highest first. -/
def bigAt (size n j : Nat) : B8 := BitVec.ofNat 8 (n / 2 ^ (8 * (size - 1 - j)))
/-- A number as so many bytes, the highest first. -/
def big (size n : Nat) : List B8 := (List.range size).map (bigAt size n)
theorem big_length (size n : Nat) : (big size n).length = size := by simp [big]
theorem big_get {size n j : Nat} (h : j < size) : (big size n)[j]? = some (bigAt size n j) := by simp [big, h]
/-- The same, of whose bytes the last k are laid. -/
def bigPart (size n k : Nat) : List B8 := (List.range size).map fun j => if size - k ≤ j then bigAt size n j else 0
theorem bigPart_zero (size n : Nat) : bigPart size n 0 = List.replicate size 0 := by
  unfold bigPart
  apply List.ext_getElem?
  intro i
  simp only [List.getElem?_map, List.getElem?_replicate]
  by_cases h : i < size
  · rw [List.getElem?_range h, if_pos h]
    simp only [Option.map_some, Nat.sub_zero]
    rw [if_neg (by omega)]
  · rw [List.getElem?_eq_none (by simp; omega), if_neg h]
    rfl
theorem bigPart_all (size n : Nat) : bigPart size n size = big size n := by
  unfold bigPart big
  apply List.map_congr_left
  intro j _
  rw [if_pos (by omega)]
theorem bigPart_set {size n k : Nat} (hk : k < size) : (Vb (bigPart size n k)).set (size - 1 - k) (.int .u8 (nb (bigAt size n (size - 1 - k)))) = Vb (bigPart size n (k + 1)) := by
  unfold Vb bigPart
  apply List.ext_getElem?
  intro i
  rw [List.getElem?_set]
  by_cases h : size - 1 - k = i
  · subst h
    rw [if_pos rfl, if_pos (by simp; omega)]
    simp only [List.getElem?_map]
    rw [List.getElem?_range (by omega)]
    simp only [Option.map_some]
    rw [if_pos (by omega)]
  · rw [if_neg h]
    simp only [List.getElem?_map]
    by_cases hi : i < size
    · rw [List.getElem?_range hi]
      simp only [Option.map_some]
      by_cases h2 : size - k ≤ i
      · rw [if_pos h2, if_pos (by omega)]
      · rw [if_neg h2, if_neg (by omega)]
    · rw [List.getElem?_eq_none (by simp; omega)]
      rfl
theorem bigPart_length (size n k : Nat) : (bigPart size n k).length = size := by simp [bigPart]
theorem fr_big (n : Nat) : fr n = big 4 n := by
  unfold fr big bigAt
  simp [List.range_succ]

/-- Bytes, and bytes 0 behind them, up to a sector. -/
def pad64 (xs : List B8) : List B8 := xs ++ List.replicate (64 - xs.length) 0
theorem pad64_length {xs : List B8} (h : xs.length ≤ 64) : (pad64 xs).length = 64 := by simp [pad64]; omega
/-- The texts that a transaction's digest is of. -/
def txtsOf (num : Nat) (ws : List (Int × List B8)) : List (List B8) := big 8 num :: big 4 ws.length :: ws.flatMap fun p => [big 4 p.1.toNat, p.2]
theorem txtsOf_snoc (num m : Nat) (ws : List (Int × List B8)) (p : Int × List B8) : big 8 num :: big 4 m :: (ws ++ [p]).flatMap (fun p => [big 4 p.1.toNat, p.2]) = (big 8 num :: big 4 m :: ws.flatMap fun p => [big 4 p.1.toNat, p.2]) ++ [big 4 p.1.toNat, p.2] := by
  simp
def digOf (ks : List B32) (num : Nat) (ws : List (Int × List B8)) : List B8 := sha ks (framesOf (txtsOf num ws))
theorem digOf_length (ks : List B32) (num : Nat) (ws : List (Int × List B8)) : (digOf ks num ws).length = 32 := sha_length _ _
def noteB (num place count no : Nat) (d : List B8) : List B8 := pad64 (big 8 num ++ (big 4 place ++ (big 4 count ++ (big 4 no ++ d))))
theorem noteB_length (num place count no : Nat) {d : List B8} (hd : d.length = 32) : (noteB num place count no d).length = 64 := by
  unfold noteB
  rw [pad64_length]
  simp [big_length, hd]
def headB (ks : List B32) (num : Nat) : List B8 := pad64 (big 8 num ++ sha ks (framesOf [big 8 num]))
theorem headB_length (ks : List B32) (num : Nat) : (headB ks num).length = 64 := by
  unfold headB
  rw [pad64_length]
  simp [big_length, sha_length]
end Go.Proofs.YtfkdpndcoegfpaaDoor
end

/-
  fromBytes, noted: numbers out of bytes. Conditions: the bytes are known, at most eight of them; a note has a sector's bytes.
-/

section
set_option maxRecDepth 100000
set_option linter.unusedSimpArgs false
set_option linter.unusedVariables false
namespace Go.Proofs.YtfkdpndcoegfpaaDoor
open Go.RowKit

/-- The number that bytes are, the highest first. -/
def fromB (xs : List B8) : Nat := xs.foldl (fun n x => n * 256 + x.toNat) 0
theorem fromB_snoc (xs : List B8) (x : B8) : fromB (xs ++ [x]) = fromB xs * 256 + x.toNat := by simp [fromB]
theorem fromB_lt (xs : List B8) : fromB xs < 256 ^ xs.length := by
  have h : ∀ (l : List B8), fromB l.reverse < 256 ^ l.length := by
    intro l
    induction l with
    | nil => simp [fromB]
    | cons x l ih =>
      rw [List.reverse_cons, fromB_snoc, List.length_cons, Nat.pow_succ]
      have := x.isLt
      omega
  have := h xs.reverse
  rwa [List.reverse_reverse, List.length_reverse] at this
theorem or_u64 (a b : Nat) (ha : a < 2 ^ 56) (hb : b < 256) : bits .or .u64 ((a : Int) * 256) (b : Int) = ((a * 256 + b : Nat) : Int) := by
  unfold bits
  simp only [IntKind.bits]
  have e1 : BitVec.ofInt 64 ((a : Int) * 256) = BitVec.ofNat 64 (a * 256) := by
    apply BitVec.eq_of_toNat_eq
    simp
    omega
  have e2 : BitVec.ofInt 64 (b : Int) = BitVec.ofNat 64 b := by
    apply BitVec.eq_of_toNat_eq
    simp
  rw [e1, e2]
  have e3 : (BitVec.ofNat 64 (a * 256) ||| BitVec.ofNat 64 b).toNat = a * 256 + b := by
    rw [BitVec.toNat_or, BitVec.toNat_ofNat, BitVec.toNat_ofNat, Nat.mod_eq_of_lt (by omega), Nat.mod_eq_of_lt (by omega)]
    rw [Nat.mul_comm, show (256 : Nat) = 2 ^ 8 from rfl, ← Nat.two_pow_add_eq_or_of_lt (i := 8) (b := b) (by omega)]
  have e4 : ∀ z : BitVec 64, z.toNat = a * 256 + b → IntKind.u64.wrap (z.toNat : Int) = ((a * 256 + b : Nat) : Int) := by
    intro z hz
    rw [hz]
    simp [IntKind.wrap, IntKind.signed, IntKind.bits]
    omega
  exact e4 _ e3

set_option maxHeartbeats 1000000 in
theorem fromBytes_any (w : World) (A : Nat → Prop) (P : Option Addr) (m c : Nat) (xs : List B8) (hx : Bts A w (.slice P m c) xs) (hm : m ≤ 8) :
    Calls Tryd.prog 60 #[.slice P m c] w fun e w' => e = .returned (.int .u64 (fromB xs)) ∧ w = w' := by
  have hlen := hx.cells.1
  have H := Lib.hid (And.intro hx hlen)
  clear hx hlen
  go_enter Tryd.func60, Tryd.ntmps60
  go_wp2_with fail
  go_loop [3, 8] (fun v iv => ∃ i : Nat, i ≤ m ∧ iv = .int .i64 i ∧ v = .int .u64 (fromB (xs.take i))) (fun _ iv => m - (intOf iv).toNat)
  case atStart => exact ⟨0, Nat.zero_le _, rfl, rfl⟩
  case round =>
    obtain ⟨i, hi, rfl, rfl⟩ := hrel
    by_cases hlt : i < m
    · obtain ⟨g, o, rfl, _, _, hc⟩ := H.out.1.cells.2 (by omega)
      have hxi : i < xs.length := by have := H.out.2; omega
      have hci := hc i (.int .u8 (nb xs[i])) (by rw [Vb_get, List.getElem?_eq_getElem hxi]; rfl)
      clear hc
      have hb := nb_bound xs[i]
      have hlt2 := fromB_lt (xs.take i)
      obtain ⟨a, ha⟩ : ∃ a, fromB (xs.take i) = a := ⟨_, rfl⟩
      rw [ha] at hlt2 ⊢
      have ha56 : a < 2 ^ 56 := by
        have : (xs.take i).length ≤ 7 := by rw [List.length_take]; omega
        have : 256 ^ (xs.take i).length ≤ 256 ^ 7 := Nat.pow_le_pow_right (by omega) this
        omega
      go_wp2_with fail
      go_round
      case rel =>
        refine ⟨i + 1, by omega, by go_num, ?_⟩
        rw [take_snoc_ (List.getElem?_eq_getElem hxi), fromB_snoc, ha]
        unfold nb
        rw [or_u64 a _ ha56 xs[i].isLt]
      case measure => simp [intOf]; omega
    · obtain rfl : i = m := by omega
      rw [List.take_of_length_le (by have := H.out.2; omega)]
      go_wp2_with fail
      go_ret
      exact ⟨rfl, rfl⟩

/-- The sector's bytes from o on, so many. -/
def sub (xs : List B8) (o n : Nat) : List B8 := (xs.drop o).take n
theorem sub_length {xs : List B8} {o n : Nat} (h : o + n ≤ xs.length) : (sub xs o n).length = n := by simp [sub]; omega
theorem Bts.sub_ {A : Nat → Prop} {w : World} {g o m c : Nat} {xs : List B8} (h : Bts A w (.slice (some ⟨g, o, none⟩) m c) xs) {k n c' : Nat} (hk : k + n ≤ m) (hn : n ≤ c') (hc : c' ≤ 9223372036854775807) : Bts A w (.slice (some ⟨g, o + k, none⟩) n c') (sub xs k n) := by
  rcases h with ⟨e, _⟩ | ⟨g', o', cap, t, cs, e, hA, hn', hb, ht, h1, h2⟩
  · cases e
  · cases e
    refine Bts.of_blk hb hn' hA ?_ (sub_length (by omega)) hn (by unfold maxLen; omega)
    rw [sub_length (by omega)]
    unfold sub
    have e : Vb ((xs.drop k).take n) = (((Vb xs).drop k).take n) := by unfold Vb; rw [List.map_take, List.map_drop]
    rw [e, ← ht, List.drop_take, List.drop_drop, List.take_take, Nat.min_eq_left (by omega)]
set_option maxHeartbeats 1000000 in
theorem noted_any (w : World) (A : Nat → Prop) (g o c : Nat) (xs : List B8) (hx : Bts A w (.slice (some ⟨g, o, none⟩) 64 c) xs) (hc : 64 ≤ c) (hcm : c ≤ 9223372036854775807) :
    Calls Tryd.prog 61 #[.slice (some ⟨g, o, none⟩) 64 c] w fun e w' => e = .returned (.tuple #[.int .u64 (fromB (sub xs 0 8)), .int .i64 (fromB (sub xs 12 4)), .int .i64 (fromB (sub xs 16 4))]) ∧ Below w.heap.size w w' := by
  have hxl := hx.cells.1
  have hq1 := fromB_lt (sub xs 12 4)
  have hq2 := fromB_lt (sub xs 16 4)
  rw [sub_length (by omega)] at hq1 hq2
  have hr1 : fromB (sub xs 12 4) < 4294967296 := hq1
  have hr2 : fromB (sub xs 16 4) < 4294967296 := hq2
  clear hq1 hq2 hxl
  have H := Lib.hid hx
  clear hx
  go_enter Tryd.func61, Tryd.ntmps61
  go_wp2_with fail
  go_quiet ((go_at_call 60; exact Calls.quiet_of_same ((fromBytes_any _ A _ 8 c (sub xs 0 8) ((H.out.below (drewN_below w _)).sub_ (k := 0) (n := 8) (c' := c) (by omega) (by omega) hcm) (by omega)).mono fun e w' ⟨h1, h2⟩ => ⟨h1, h2.symm⟩)))
  go_wp2_with fail
  have H2 := Lib.hid (And.intro (H.out.below (drewN_below w nq)) (drewN_below w nq))
  generalize w.drewN nq = w2 at *
  go_quiet ((first
    | (go_at_call 60; with_reducible exact Calls.quiet_of_same ((fromBytes_any _ A (some ⟨g, o + 8 + 4, none⟩) 4 (c - 8 - 4) (sub xs 12 4) (by exact (H2.out.1.below (drewN_below w2 _)).sub_ (k := 12) (n := 4) (c' := c - 8 - 4) (by omega) (by omega) (by omega)) (by omega)).mono fun e w' ⟨h1, h2⟩ => ⟨h1, h2.symm⟩))
    | (go_at_call 60; with_reducible exact Calls.quiet_of_same ((fromBytes_any _ A (some ⟨g, o + 8 + 8, none⟩) 4 (c - 8 - 8) (sub xs 16 4) (by exact (H2.out.1.below (drewN_below w2 _)).sub_ (k := 16) (n := 4) (c' := c - 8 - 8) (by omega) (by omega) (by omega)) (by omega)).mono fun e w' ⟨h1, h2⟩ => ⟨h1, h2.symm⟩))))
  go_wp2_with fail
  go_ret3
  exact ⟨rfl, H2.out.2.trans ((drewN_below _ _).mono H2.out.2.size)⟩
end Go.Proofs.YtfkdpndcoegfpaaDoor
end

/-
  inBytes: a number as so many bytes. Condition: it isn't below 0.
-/

section
set_option maxRecDepth 100000
set_option linter.unusedSimpArgs false
set_option linter.unusedVariables false
namespace Go.Proofs.YtfkdpndcoegfpaaDoor
open Go.RowKit

theorem big_byte (n k : Nat) : (n : Int) / 2 ^ (8 * k) % 256 = nb (BitVec.ofNat 8 (n / 2 ^ (8 * k))) := by
  rw [nb_of]
  have : ((2 : Int) ^ (8 * k)) = ((2 ^ (8 * k) : Nat) : Int) := by simp
  rw [this, ← Int.natCast_ediv]
  simp

set_option maxHeartbeats 1000000 in
theorem inBytes_any (w : World) (n size : Nat) (hn : n ≤ 9223372036854775807) (hs : size ≤ 8) :
    Calls Tryd.prog 53 #[.int .i64 n, .int .i64 size] w fun e w' => e = .returned (.slice (some ⟨w.heap.size, 0, none⟩) size size) ∧ Blk w' w.heap.size 5 (Vb (big size n)) ∧ Below w.heap.size w w' := by
  have hmk := make_bytes w size (by omega) (by omega)
  have hz : U (List.replicate size 0) = Vb (bigPart size n 0) := by rw [bigPart_zero]; simp [U, Vb, nb]
  have hb := Blk.new w 5 (U (List.replicate size 0))
  have hw := new_below w (.cells (U (List.replicate size 0)).toArray 5)
  rw [Int.toNat_natCast] at hmk
  rw [hz] at hb hw hmk
  have H := Lib.hid (And.intro hb hw)
  clear hz hb hw
  go_enter Tryd.func53, Tryd.ntmps53
  go_wp2_with fail
  clear hmk
  go_loopw [12] (fun iv wx => ∃ k : Nat, k ≤ size ∧ iv = .int .i64 k ∧ Blk wx w.heap.size 5 (Vb (bigPart size n k)) ∧ Below w.heap.size w wx) (fun iv _ => size - (intOf iv).toNat)
  case atStart => exact ⟨0, Nat.zero_le _, rfl, H.out.1, H.out.2⟩
  case round =>
    clear H
    obtain ⟨k, hk, rfl, h1, h2⟩ := hrel
    have HR := Lib.hid (And.intro h1 h2)
    by_cases hlt : k < size
    · have c0 := h1.cell (size - 1 - k)
      have f0 := h1.frozen (size - 1 - k)
      rw [Vb_get, List.getElem?_eq_getElem (by rw [bigPart_length]; omega)] at c0
      clear h1 h2
      go_wp2_with fail
      go_roundw
      case rel =>
        refine ⟨k + 1, by omega, by go_num, ?_, HR.out.2.setCell (p := ⟨w.heap.size, size - 1 - k, none⟩) (Nat.le_refl _) _⟩
        rw [big_byte, show k = size - 1 - (size - 1 - k) by omega]
        have := HR.out.1.set_ (size - 1 - k) (.int .u8 (nb (bigAt size n (size - 1 - k))))
        rw [bigPart_set hlt] at this
        rw [show size - 1 - (size - 1 - k) = k by omega]
        simpa [bigAt, show size - 1 - (size - 1 - k) = k by omega] using this
      case measure => simp [intOf]; omega
    · obtain rfl : k = size := by omega
      clear h1 h2
      go_wp2_with fail
      go_ret
      refine ⟨rfl, ?_, HR.out.2⟩
      rw [← bigPart_all]
      exact HR.out.1
end Go.Proofs.YtfkdpndcoegfpaaDoor
end

/-
  sector: parts of a sector, and bytes 0 behind them. Conditions: the parts are known, and a sector has room for them.
-/

section
set_option maxRecDepth 100000
set_option linter.unusedSimpArgs false
set_option linter.unusedVariables false
namespace Go.Proofs.YtfkdpndcoegfpaaDoor
open Go.RowKit

def ub (xs : List B8) : List UInt8 := xs.map UInt8.ofBitVec
theorem ub_length (xs : List B8) : (ub xs).length = xs.length := by simp [ub]
theorem ub_nat (x : B8) : ((UInt8.ofBitVec x).toNat : Int) = nb x := by unfold nb; rfl
theorem Bts.holds {A : Nat → Prop} {w : World} {v : Value} {xs : List B8} (h : Bts A w v xs) : Lib.HoldsBytes w v (ub xs) := by
  rcases h with ⟨rfl, rfl⟩ | ⟨g, o, cap, t, cs, rfl, hA, hn, hb, ht, h1, h2⟩
  · exact ⟨none, 0, rfl, fun _ => rfl, fun a ha => by cases ha⟩
  · refine ⟨_, cap, by rw [ub_length], fun h => (by cases h), fun a ha i x hx => ?_⟩
    cases ha
    have hb' : Bts A w (.slice (some ⟨g, o, none⟩) xs.length cap) xs := .inr ⟨g, o, cap, t, cs, rfl, hA, hn, hb, ht, h1, h2⟩
    have hi : i < xs.length := by have := (List.getElem?_eq_some_iff.1 hx).1; rw [ub_length] at this; exact this
    obtain ⟨g', o', e, _, _, hc⟩ := hb'.cells.2 (by omega)
    cases e
    rw [add_off, hc i (.int .u8 (nb xs[i])) (by rw [Vb_get, List.getElem?_eq_getElem hi]; rfl)]
    unfold ub at hx
    rw [List.getElem?_map, List.getElem?_eq_getElem hi] at hx
    simp only [Option.map_some, Option.some.injEq] at hx
    subst hx
    rw [ub_nat]
theorem join_flat : ∀ (ls : List (List UInt8)), Lib.join ls [] = ls.flatten
  | [] => rfl
  | x :: r => by
    rw [Lib.join_cons, List.flatten_cons]
    simp [Lib.joinTail]
theorem lens_flat (ls : List (List UInt8)) : Lib.lens ls = ls.flatten.length := by simp [Lib.lens, List.length_flatten]
theorem ub_flat (xs : List (List B8)) : (xs.map ub).flatten = ub xs.flatten := by
  unfold ub
  rw [List.map_flatten]
theorem fresh_txt {B : Nat} {w : World} {v : Value} {xs : List B8} (h : Lib.FreshBytes B w v (ub xs)) : ∃ g c, v = .slice (some ⟨g, 0, none⟩) xs.length c ∧ B ≤ g ∧ ∀ p, p ≠ g → Txt w p (some ⟨g, 0, none⟩) xs.length c xs := by
  obtain ⟨g, cap, zs, rfl, hB, h1, h2, h3, h4, h5, h6, h7⟩ := h
  rw [ub_length] at *
  refine ⟨g, cap, rfl, hB, fun p hp => ⟨rfl, h1, h2, fun _ => ⟨g, 0, rfl, fun e => hp e.symm, fun j hj => ?_⟩⟩⟩
  rw [Nat.zero_add, h6 j (by omega)]
  have hz : j < zs.length := by omega
  have e := congrArg (fun l => l[j]?) h5
  simp only [Lib.bytesOf, ub, List.getElem?_map, List.getElem?_take, if_pos hj, List.getElem?_eq_getElem hz, List.getElem?_eq_getElem hj, Option.map_some, Option.some.injEq] at e
  have hr := h4 zs[j] (List.getElem_mem hz)
  have en := congrArg UInt8.toNat e
  rw [List.getD_eq_getElem?_getD, List.getElem?_eq_getElem hz, List.getD_eq_getElem?_getD, List.getElem?_eq_getElem hj]
  simp only [Option.getD_some]
  have e2 : (UInt8.ofBitVec xs[j]).toNat = xs[j].toNat := rfl
  rw [e2, UInt8.toNat_ofNat'] at en
  unfold nb
  rw [← en]
  congr 2
  omega
theorem zeros_Vb (n : Nat) : U (List.replicate n 0) = Vb (List.replicate n 0) := by simp [U, Vb, nb]
theorem over_pad {xs : List B8} (h : xs.length ≤ 64) : over (Vb (List.replicate 64 0)) 0 (Vb (xs.take 64)) = Vb (pad64 xs) := by
  rw [List.take_of_length_le h]
  unfold over pad64
  rw [List.take_zero, List.nil_append, Vb_append, Vb_length, Nat.zero_add]
  congr 1
  simp only [Vb, List.map_replicate, List.drop_replicate]

set_option maxHeartbeats 1000000 in
theorem sector_join (w : World) (A : Nat → Prop) (g k c : Nat) (vs : List Value) (xs : List (List B8)) (h2 : 2 ≤ k) (hk10 : k ≤ 10) (hk : xs.length = k) (hv : vs.length = k) (hb : Blk w g 23 vs) (hp : ∀ (i : Nat) v x, vs[i]? = some v → xs[i]? = some x → Bts A w v x) (hcap : k ≤ c) (hl : xs.flatten.length ≤ 64) :
    Calls Tryd.prog 47 #[.slice (some ⟨g, 0, none⟩) k c] w fun e w' => e = .returned (.slice (some ⟨w.heap.size, 0, none⟩) 64 64) ∧ Blk w' w.heap.size 5 (Vb (pad64 xs.flatten)) ∧ Below w.heap.size w w' := by
  have hmk := make_bytes w 64 (by omega) (by omega)
  have hn := Blk.new w 5 (U (List.replicate 64 0))
  have hbw := new_below w (.cells (U (List.replicate 64 0)).toArray 5)
  rw [show (64 : Int).toNat = 64 from rfl] at hmk
  rw [zeros_Vb] at hn hbw hmk
  have hP : Lib.PartsAt (w.alloc (.cells (Vb (List.replicate 64 0)).toArray 5)) ⟨g, 0, none⟩ vs (xs.map ub) := by
    refine ⟨by rw [List.length_map]; omega, fun i v hi => ?_, fun i v l hi hx => ?_⟩
    · rw [add_off, Nat.zero_add, (hb.below hbw hb.lt).cell, hi]
    · rw [List.getElem?_map] at hx
      cases hxx : xs[i]? with
      | none => rw [hxx] at hx; cases hx
      | some x =>
        rw [hxx] at hx
        simp only [Option.map_some, Option.some.injEq] at hx
        subst hx
        exact ((hp i v x hi hxx).below hbw).holds
  have hj := Tryd.bytes_Join_many g 0 k c vs (xs.map ub) (.slice none 0 0) [] _ (by rw [List.length_map]; exact hk) h2 hP hcap ⟨none, 0, rfl, fun _ => rfl, fun a ha => by cases ha⟩ (by omega) (by rw [lens_flat, ub_flat, ub_length, List.length_nil, Nat.zero_mul]; omega)
  rw [join_flat, ub_flat] at hj
  have HJ := Lib.hid hj
  have H := Lib.hid (And.intro hn hbw)
  clear hn hbw hP hj hb hp
  go_enter Tryd.func47, Tryd.ntmps47
  go_wp2_with fail
  refine HJ.out.mono ?_
  rintro e w2 ⟨v, rfl, h3, h4⟩
  obtain ⟨g2, c2, rfl, hg2, htx⟩ := fresh_txt h3
  have H2 := Lib.hid (And.intro (H.out.1.below h4 H.out.1.lt) (And.intro (H.out.2.trans (h4.mono H.out.2.size)) (htx w.heap.size (by have := H.out.1.lt; omega))))
  clear h3 h4 htx HJ hmk
  obtain ⟨m, hm⟩ : ∃ m, xs.flatten.length = m := ⟨_, rfl⟩
  rw [hm] at H2 hl ⊢
  have HM := Lib.hid hm
  clear hm
  go_wp2_with (refine wpList_copy_blk rfl (.tmp 5) (.tmp 7) 23 23 rfl 5 Tryd.underlying23 info5 w.heap.size 0 64 64 rfl rfl H2.out.1 H2.out.2.2 (by simp [Vb_length]) ?_; intro w3 hb3 o3)
  have H3 := Lib.hid (And.intro hb3 o3)
  clear hb3 o3
  go_ret
  refine ⟨rfl, ?_, H2.out.2.1.trans (H3.out.2.below (B := w.heap.size) H2.out.2.1.size (by simp))⟩
  have := H3.out.1
  rw [over_pad (by rw [HM.out]; exact hl)] at this
  exact this

set_option maxHeartbeats 1000000 in
theorem sector_none (w : World) : Calls Tryd.prog 47 #[.slice none 0 0] w fun e w' => e = .returned (.slice (some ⟨w.heap.size, 0, none⟩) 64 64) ∧ Blk w' w.heap.size 5 (Vb (List.replicate 64 0)) ∧ Below w.heap.size w w' := by
  have hmk := make_bytes w 64 (by omega) (by omega)
  have hn := Blk.new w 5 (U (List.replicate 64 0))
  have hbw := new_below w (.cells (U (List.replicate 64 0)).toArray 5)
  rw [show (64 : Int).toNat = 64 from rfl] at hmk
  rw [zeros_Vb] at hn hbw hmk
  have hj := Tryd.bytes_Join_none none 0 (.slice none 0 0) (w.alloc (.cells (Vb (List.replicate 64 0)).toArray 5))
  have HJ := Lib.hid hj
  have H := Lib.hid (And.intro hn hbw)
  clear hn hbw hj
  go_enter Tryd.func47, Tryd.ntmps47
  go_wp2_with fail
  refine HJ.out.mono ?_
  rintro e w2 ⟨rfl, rfl⟩
  clear HJ hmk
  have hb4 := new_below (w.alloc (.cells (Vb (List.replicate 64 0)).toArray 5)) (.cells #[] 5)
  have H2 := Lib.hid (And.intro (H.out.1.below hb4 H.out.1.lt) (H.out.2.trans (hb4.mono H.out.2.size)))
  have hT : Txt ((w.alloc (.cells (Vb (List.replicate 64 0)).toArray 5)).alloc (.cells #[] 5)) w.heap.size (some ⟨w.heap.size + 1, 0, none⟩) 0 0 [] := ⟨rfl, Nat.le_refl _, Nat.zero_le _, fun h => absurd h (by omega)⟩
  have HT := Lib.hid hT
  clear hT hb4
  go_wp2_with (refine wpList_copy_blk rfl (.tmp 5) (.tmp 7) 23 23 rfl 5 Tryd.underlying23 info5 w.heap.size 0 64 64 rfl rfl H2.out.1 HT.out (by simp [Vb_length]) ?_; intro w3 hb3 o3)
  have H3 := Lib.hid (And.intro hb3 o3)
  clear hb3 o3
  go_ret
  refine ⟨rfl, ?_, H2.out.2.trans (H3.out.2.below (B := w.heap.size) H2.out.2.size (by simp))⟩
  have := H3.out.1
  simpa [over, Vb] using this
end Go.Proofs.YtfkdpndcoegfpaaDoor
end

/-
  head: the sector that tells the number of the last transaction. Conditions: the constants lie in their variable; the number isn't below 0.
-/

section
set_option maxRecDepth 100000
set_option linter.unusedSimpArgs false
set_option linter.unusedVariables false
namespace Go.Proofs.YtfkdpndcoegfpaaDoor
open Go.RowKit

/-- A slice of texts: in a block of slices that A allows, each text likewise. -/
def Parts (A : Nat → Prop) (w : World) (v : Value) (xs : List (List B8)) : Prop :=
  ∃ g cap vs, v = .slice (some ⟨g, 0, none⟩) xs.length cap ∧ A g ∧ Blk w g 23 vs ∧ xs.length ≤ vs.length ∧ xs.length ≤ cap ∧ cap ≤ maxLen ∧ ∀ (i : Nat) x, xs[i]? = some x → ∃ v, vs[i]? = some v ∧ Bts A w v x
theorem Parts.txts {A : Nat → Prop} {w : World} {P : Option Addr} {n c : Nat} {xs : List (List B8)} (h : Parts A w (.slice P n c) xs) : TxtsN w w.heap.size P n xs ∧ n ≤ c ∧ c ≤ maxLen := by
  obtain ⟨g, cap, vs, e, hA, hb, h0, h1, h2, hc⟩ := h
  cases e
  refine ⟨⟨rfl, fun _ => ⟨g, 0, rfl, by have := hb.lt; omega, fun i x hx => ?_⟩⟩, h1, h2⟩
  obtain ⟨v, hv, hbt⟩ := hc i x hx
  obtain ⟨Q, k, rfl, h3, h4⟩ := hbt.form
  exact ⟨Q, x.length, k, by rw [hb.cell, Nat.zero_add, hv], hbt.txtNew⟩
theorem slice32 (b : Nat) (W : World) : (Instr.sliceAt 80 (.pointer (some ⟨b, 0, none⟩)) none none none).run Tryd.prog W = .ok (.slice (some ⟨b, 0, none⟩) 32 32) W := by
  have hl : Tryd.prog.arrayLen 80 = 32 := by kernel_rfl
  have he : Tryd.prog.elem 80 = 5 := by kernel_rfl
  have hs : (sizeOf 5).run Tryd.prog W = .ok 1 W := by kernel_rfl
  have h := run_sliceAt_array_all (P := Tryd.prog) W 80 ⟨b, 0, none⟩ (by rw [hl, he]; exact Tryd.underlying80)
  rw [h, he, hs, hl]
  simp only [Result.andThen_ok, slicedAt]
  rw [if_neg (by omega), Addr.add_mid]
theorem zero32 (w : World) : (zeroValue 80).run Tryd.prog w = .ok (.agg (List.replicate 32 (Value.int .u8 0)).toArray) w := by kernel_rfl
theorem Bts.whole {A : Nat → Prop} {w : World} {g t : Nat} {xs : List B8} {n : Nat} (hb : Blk w g t (Vb xs)) (ht : BK t) (hA : A g) (hn : xs.length = n) (h2 : n ≤ 1000000) : Bts A w (.slice (some ⟨g, 0, none⟩) n n) xs :=
  Bts.of_blk hb ht hA (by rw [List.drop_zero, List.take_of_length_le (by rw [Vb_length]; omega)]) hn (Nat.le_refl _) (by unfold maxLen; omega)
theorem below_of {w a b : World} (h1 : Below w.heap.size w a) (h2 : Below a.heap.size a b) : Below w.heap.size w b := h1.trans (h2.mono h1.size)

set_option maxHeartbeats 1000000 in
theorem head_any (ks : List B32) (w : World) (n : Nat) (hK : Roots ks w) (hn : n ≤ 9223372036854775807) :
    Calls Tryd.prog 41 #[.int .i64 n] w fun e w' => ∃ g, e = .returned (.slice (some ⟨g, 0, none⟩) 64 64) ∧ w.heap.size ≤ g ∧ Blk w' g 5 (Vb (headB ks n)) ∧ Below w.heap.size w w' := by
  have hpos := hK.pos
  have HK := Lib.hid hK
  have hz := zero32
  have hs32 := slice32
  clear hK
  go_enter Tryd.func41, Tryd.ntmps41
  go_wp2_with fail
  refine (inBytes_any w n 8 hn (by omega)).mono ?_
  rintro e w1 ⟨rfl, h1, h2⟩
  have hb := new_below w1 (.cells #[.slice (some ⟨w.heap.size, 0, none⟩) 8 8] 23)
  have hblk := Blk.new w1 23 [.slice (some ⟨w.heap.size, 0, none⟩) 8 8]
  have hsz := h2.size
  have hlt := h1.lt
  have hp : Parts (fun _ => True) (w1.alloc (.cells #[.slice (some ⟨w.heap.size, 0, none⟩) 8 8] 23)) (.slice (some ⟨w1.heap.size, 0, none⟩) 1 1) [big 8 n] :=
    ⟨w1.heap.size, 1, _, rfl, trivial, hblk, Nat.le_refl _, Nat.le_refl _, by unfold maxLen; decide, fun i x hx => by
      match i, hx with
      | 0, hx =>
        simp only [List.getElem?_cons_zero, Option.some.injEq] at hx
        subst hx
        exact ⟨_, rfl, (Bts.whole h1 (.inl rfl) trivial (big_length _ _) (by omega)).below hb⟩⟩
  have H1 := Lib.hid (And.intro h1 (And.intro (below_of h2 hb) (And.intro hp.txts.1.txts hb)))
  clear h1 h2 hb hblk hp
  go_wp2_with fail
  refine (framed_any ks (w1.alloc (.cells #[.slice (some ⟨w.heap.size, 0, none⟩) 8 8] 23)) (some ⟨w1.heap.size, 0, none⟩) 1 1 [big 8 n] (HK.out.below H1.out.2.1 hpos) H1.out.2.2.1 (by omega) (by intro x hx; simp only [List.mem_singleton] at hx; subst hx; rw [big_length]; omega)).mono ?_
  rintro e w2 ⟨rfl, h3⟩
  have hs2 : w1.heap.size + 1 ≤ w2.heap.size := by have := h3.size; simpa using this
  have H2 := Lib.hid (And.intro (H1.out.1.below (below_of H1.out.2.2.2 h3) hlt) (below_of H1.out.2.1 h3))
  clear h3
  have hd := sha_length ks (framesOf [big 8 n])
  have HD := Lib.hid (show headB ks n = pad64 (big 8 n ++ sha ks (framesOf [big 8 n])) from rfl)
  generalize sha ks (framesOf [big 8 n]) = d at hd HD
  have HDD := Lib.hid hd
  have i32 : (Tryd.prog.info? 80).map (·.size) = some (Vb d).length := info31.trans (by rw [Vb_length, hd])
  have I32 := Lib.hid i32
  clear hd i32
  go_wp2_with (refine wpList_store_blk rfl 80 (.tmp 4) (.tmp 9) rfl w2.heap.size 0 (Vb d) rfl rfl (Blk.new w2 80 (List.replicate 32 (.int .u8 0))) (by simp [Vb_length, HDD.out]) I32.out (Vb_oneCell _) ?_; intro w3 hA hO)
  rw [over_whole (by simp [Vb_length, HDD.out])] at hA
  have hb3 : Below w2.heap.size w2 w3 := (new_below w2 _).trans (hO.below (B := w2.heap.size) (by simp) (by simp))
  have hb4 := new_below w3 (.cells #[.slice (some ⟨w.heap.size, 0, none⟩) 8 8, .slice (some ⟨w2.heap.size, 0, none⟩) 32 32] 23)
  have hq := Blk.new w3 23 [.slice (some ⟨w.heap.size, 0, none⟩) 8 8, .slice (some ⟨w2.heap.size, 0, none⟩) 32 32]
  have h8 := (H2.out.1.below hb3 (by omega)).below hb4 (by have := hb3.size; omega)
  have h32 := hA.below hb4 hA.lt
  have hbel := below_of (below_of H2.out.2 hb3) hb4
  have H4 := Lib.hid (And.intro hq (And.intro h8 (And.intro h32 hbel)))
  clear hA hO hb3 hb4 hq h8 h32 hbel
  go_wp2_with fail
  refine (sector_join _ (fun _ => True) w3.heap.size 2 2 _ [big 8 n, d] (by omega) (by omega) rfl rfl H4.out.1 (fun i v x hv hx => ?_) (Nat.le_refl _) (by simp [big_length, HDD.out])).mono ?_
  · match i, hv, hx with
    | 0, hv, hx =>
      simp only [List.getElem?_cons_zero, Option.some.injEq] at hv hx
      subst hv hx
      exact Bts.whole H4.out.2.1 (.inl rfl) trivial (big_length _ _) (by omega)
    | 1, hv, hx =>
      simp only [List.getElem?_cons_zero, List.getElem?_cons_succ, Option.some.injEq] at hv hx
      subst hv hx
      exact Bts.whole H4.out.2.2.1 (.inr rfl) trivial HDD.out (by omega)
  rintro e w5 ⟨rfl, h5, h6⟩
  have H5 := Lib.hid (And.intro h5 (And.intro h6.size (below_of H4.out.2.2.2 h6)))
  clear h5 h6
  go_wp2_with fail
  go_ret
  refine ⟨_, rfl, ?_, ?_, H5.out.2.2⟩
  · have := H4.out.2.2.2.size; simpa using this
  · rw [HD.out]
    simpa using H5.out.1
end Go.Proofs.YtfkdpndcoegfpaaDoor
end

/-
  digest: what binds the journal's notes to a transaction. Conditions: the constants lie in their variable; numbers aren't below 0, bytes are a sector's.
-/

section
set_option maxRecDepth 100000
set_option linter.unusedSimpArgs false
set_option linter.unusedVariables false
namespace Go.Proofs.YtfkdpndcoegfpaaDoor
open Go.RowKit

/-- A new slice of the bytes of xs, from block N on. -/
def NewB (N n : Nat) (xs : List B8) (x : Value) (w : World) : Prop := ∃ g, x = .slice (some ⟨g, 0, none⟩) n n ∧ N ≤ g ∧ Blk w g 5 (Vb xs)
theorem NewB.below {N n : Nat} {xs : List B8} {x : Value} {w w' : World} (h : NewB N n xs x w) (hb : Below w.heap.size w w') : NewB N n xs x w' := by
  obtain ⟨g, e, hg, hk⟩ := h
  exact ⟨g, e, hg, hk.below hb hk.lt⟩

theorem blk_pair {w : World} {b : Nat} {t : TypeId} {x y : Value} (h : Blk w b t [x, y]) : w.cell? ⟨b, 0, none⟩ = some x ∧ w.cell? ⟨b, 1, none⟩ = some y := ⟨h.cell 0, h.cell 1⟩
theorem inBytes8 (w : World) (n : Nat) (hn : n ≤ 9223372036854775807) :
    Calls Tryd.prog 53 #[.int .i64 n, .int .i64 8] w fun e w' => e = .returned (.slice (some ⟨w.heap.size, 0, none⟩) 8 8) ∧ Blk w' w.heap.size 5 (Vb (big 8 n)) ∧ Below w.heap.size w w' := inBytes_any w n 8 hn (by omega)
theorem inBytes4 (w : World) (n : Nat) (hn : n ≤ 9223372036854775807) :
    Calls Tryd.prog 53 #[.int .i64 n, .int .i64 4] w fun e w' => e = .returned (.slice (some ⟨w.heap.size, 0, none⟩) 4 4) ∧ Blk w' w.heap.size 5 (Vb (big 4 n)) ∧ Below w.heap.size w w' := inBytes_any w n 4 hn (by omega)
theorem cell_below {w w' : World} {b o : Nat} {u : Value} (h : w.cell? ⟨b, o, none⟩ = some u) (hb : Below w.heap.size w w') : w'.cell? ⟨b, o, none⟩ = some u := (hb.cell (p := ⟨b, o, none⟩) (World.block_lt_of_cell? w _ h)).trans h
theorem cell_drew {w w' : World} {b o : Nat} {u : Value} (h : w.cell? ⟨b, o, none⟩ = some u) (hb : Below w.drew.heap.size w.drew w') : w'.cell? ⟨b, o, none⟩ = some u := cell_below (w := w.drew) h hb
theorem blk_drew {w w' : World} {g : Nat} {t : TypeId} {cs : List Value} (h : Blk w g t cs) (hb : Below w.drew.heap.size w.drew w') : Blk w' g t cs := Blk.below (w := w.drew) h hb h.lt
theorem below_drew {w a b : World} (h1 : Below w.heap.size w a) (h2 : Below a.drew.heap.size a.drew b) : Below w.heap.size w b := below_of (h1.trans ((drew_below a).mono h1.size)) h2
theorem own_below {w w' : World} {N e s n : Nat} {v : Value} {xs : List Value} (h : w.ownsRow N e s v n xs) (hb : Below w.heap.size w w') : w'.ownsRow N e s v n xs := ownsRow_only (S := []) h (Only.of_below hb) (by simp)

/-- A slice of texts in memory of the call's own. -/
def OParts (N : Nat) (w : World) (v : Value) (n : Nat) (X : List (List B8)) : Prop := ∃ cells : List Value, w.ownsRow N 23 1 v n cells ∧ cells.length = n ∧ X.length = n ∧ ∀ (j : Nat) (x : List B8), X[j]? = some x → ∃ u, cells[j]? = some u ∧ Bts (fun _ => True) w u x
theorem OParts.below {N n : Nat} {w w' : World} {v : Value} {X : List (List B8)} (h : OParts N w v n X) (hb : Below w.heap.size w w') : OParts N w' v n X := by
  obtain ⟨cells, h1, h2, h3, h4⟩ := h
  refine ⟨cells, own_below h1 hb, h2, h3, fun j x hx => ?_⟩
  obtain ⟨u, hu, hb'⟩ := h4 j x hx
  exact ⟨u, hu, hb'.below hb⟩
theorem Bts.grown {A : Nat → Prop} {w w' : World} {v : Value} {xs : List B8} {N e sz n : Nat} {r : Value} {cells : List Value} (h : Bts A w v xs) (ho : w.ownsRow N e sz r n cells) (hg : w.grownBy w' r.ownBlock) (h1 : e ≠ 5) (h2 : e ≠ 80) : Bts A w' v xs := by
  rcases h with h | ⟨g, o, cap, t, cs, e, hA, hn, hb, ht, h3, h4⟩
  · exact .inl h
  · exact .inr ⟨g, o, cap, t, cs, e, hA, hn, hb.grown hg (fun q => own_blk_ne ho hb (fun q2 => hn.ne h1 h2 q2.symm) q.symm), ht, h3, h4⟩
theorem OParts.snoc2 {N n : Nat} {w' : World} {X : List (List B8)} {cells : List Value} (hl : X.length = n) (hcl : cells.length = n) {u0 u1 : Value} {x0 x1 : List B8} {g cap : Nat}
    (h4 : ∀ (j : Nat) (x : List B8), X[j]? = some x → ∃ u, cells[j]? = some u ∧ Bts (fun _ => True) w' u x)
    (ho : w'.ownsRow N 23 1 (.slice (some ⟨g, 0, none⟩) (n + 2) cap) (n + 2) (cells ++ [u0, u1])) (h0 : Bts (fun _ => True) w' u0 x0) (h1 : Bts (fun _ => True) w' u1 x1) : OParts N w' (.slice (some ⟨g, 0, none⟩) (n + 2) cap) (n + 2) (X ++ [x0, x1]) := by
  refine ⟨_, ho, by simp [hcl], by simp [hl], fun j x hx => ?_⟩
  by_cases hj : j < n
  · rw [List.getElem?_append_left (by omega)] at hx
    obtain ⟨u, hu, hb⟩ := h4 j x hx
    exact ⟨u, by rw [List.getElem?_append_left (by omega)]; exact hu, hb⟩
  · rw [List.getElem?_append_right (by omega), hl] at hx
    rw [List.getElem?_append_right (by omega), hcl]
    match j - n, hx with
    | 0, hx =>
      simp only [List.getElem?_cons_zero, Option.some.injEq] at hx
      subst hx
      exact ⟨u0, rfl, h0⟩
    | 1, hx =>
      simp only [List.getElem?_cons_zero, List.getElem?_cons_succ, Option.some.injEq] at hx
      subst hx
      exact ⟨u1, rfl, h1⟩
    | k + 2, hx =>
      simp at hx
theorem OParts.two {N g : Nat} {w : World} {u0 u1 : Value} {x0 x1 : List B8} (hN : N ≤ g) (hb : Blk w g 23 [u0, u1]) (h0 : Bts (fun _ => True) w u0 x0) (h1 : Bts (fun _ => True) w u1 x1) : OParts N w (.slice (some ⟨g, 0, none⟩) 2 2) 2 [x0, x1] := by
  refine ⟨[u0, u1], ⟨rfl, .inr ⟨g, 2, _, rfl, hN, hb, Nat.le_refl _, by unfold maxLen; decide, rfl, rfl⟩⟩, rfl, rfl, fun j x hx => ?_⟩
  match j, hx with
  | 0, hx =>
    simp only [List.getElem?_cons_zero, Option.some.injEq] at hx
    subst hx
    exact ⟨u0, rfl, h0⟩
  | 1, hx =>
    simp only [List.getElem?_cons_zero, List.getElem?_cons_succ, Option.some.injEq] at hx
    subst hx
    exact ⟨u1, rfl, h1⟩
  | k + 2, hx => simp at hx
theorem OParts.parts {N n : Nat} {w : World} {v : Value} {X : List (List B8)} (h : OParts N w v n X) (hn : 0 < n) : Parts (fun _ => True) w v X := by
  obtain ⟨cells, h1, h2, h3, h4⟩ := h
  rcases h1.2 with ⟨rfl, h0⟩ | ⟨g, cap, cur, rfl, hg, hb, hc1, hc2, hcs, ht⟩
  · omega
  · refine ⟨g, cap, cur.toList, by rw [h3], trivial, by simpa [Blk] using hb, ?_, by omega, hc2, fun i x hx => ?_⟩
    · have := congrArg List.length ht
      rw [List.length_take] at this
      simp at this
      simp
      omega
    · obtain ⟨u, hu, hbt⟩ := h4 i x hx
      refine ⟨u, ?_, hbt⟩
      rw [← ht, List.getElem?_take] at hu
      split at hu
      · exact hu
      · cases hu
theorem slices_one (A B : Option Addr) (m n c d : Nat) : ∀ u ∈ [Value.slice A m c, .slice B n d], u.oneCell' = true := by
  intro u hu
  simp only [List.mem_cons, List.not_mem_nil, or_false] at hu
  rcases hu with rfl | rfl <;> rfl

theorem txts_small (num : Nat) (ws : List (Int × List B8)) (h : ∀ p ∈ ws, p.2.length ≤ 300) : ∀ x ∈ txtsOf num ws, x.length ≤ 300 := by
  intro x hx
  unfold txtsOf at hx
  rcases List.mem_cons.1 hx with rfl | hx
  · rw [big_length]; omega
  rcases List.mem_cons.1 hx with rfl | hx
  · rw [big_length]; omega
  obtain ⟨p, hp, hx⟩ := List.mem_flatMap.1 hx
  simp only [List.mem_cons, List.not_mem_nil, or_false] at hx
  rcases hx with rfl | rfl
  · rw [big_length]; omega
  · exact h p hp

set_option maxHeartbeats 1000000 in
theorem digest_any (ks : List B32) (w : World) (A : Nat → Prop) (num m : Nat) (P : Option Addr) (c : Nat) (ws : List (Int × List B8)) (hK : Roots ks w) (hw : Wrs A w (.slice P m c) ws) (hnum : num ≤ 9223372036854775807) (hm : m ≤ 15)
    (hok : ∀ p ∈ ws, 0 ≤ p.1 ∧ p.1 ≤ 4294967296 ∧ p.2.length = 64) :
    Calls Tryd.prog 37 #[.agg #[.int .i64 num, .slice P m c]] w fun e w' => e = .returned (.agg (Vb (digOf ks num ws)).toArray) ∧ Below w.heap.size w w' := by
  have hz := zero32
  have hpos := hK.pos
  have hlen := hw.len
  obtain ⟨i1, hj, hy0, hy1, hy2⟩ := info_parts (show (Tryd.prog.info? 23).map (fun i => (i.zero, i.size, i.bytes)) = some (some (.slice none 0 0), 1, 24) by kernel_rfl)
  have HJ := Lib.hid (And.intro hj (And.intro hy0 (And.intro hy1 hy2)))
  have hb1 := new_below w (.cells #[.int .i64 num, .slice P m c] 60)
  have hk1 := Blk.new w 60 [.int .i64 num, .slice P m c]
  have hb2 := new_below (w.alloc (.cells #[.int .i64 num, .slice P m c] 60)) (.cells (List.replicate 32 (Value.int .u8 0)).toArray 80)
  have hk2 := Blk.new (w.alloc (.cells #[.int .i64 num, .slice P m c] 60)) 80 (List.replicate 32 (Value.int .u8 0))
  rw [World.size_alloc] at hk2
  have hk1' := hk1.below hb2 hk1.lt
  have ⟨k0, k1⟩ := blk_pair hk1'
  have H0 := Lib.hid (And.intro hk1' (And.intro hk2 (And.intro (below_of hb1 hb2) (And.intro hK (And.intro hw (And.intro hok hlen))))))
  clear hb1 hk1 hb2 hk2 hK hw hok hlen hk1' hj hy0 hy1 hy2
  go_enter Tryd.func37, Tryd.ntmps37
  go_wp2_with fail
  go_region_held3 (fun w' => w'.cell? ⟨w.heap.size, 0, none⟩ = some (.int .i64 num) ∧ w'.cell? ⟨w.heap.size, 1, none⟩ = some (.slice P m c)) (first | exact ⟨k0, k1⟩ | exact ⟨d0, d1⟩ | exact ⟨e0, e1⟩ | exact ⟨cell_below e0 (new_below _ _), cell_below e1 (new_below _ _)⟩)
    (first
      | (go_at_call 53; (with_reducible refine (inBytes8 _ num hnum).mono ?_); rintro e w1 ⟨rfl, hB, hW⟩; have d0 := cell_drew k0 hW; have d1 := cell_drew k1 hW; have H1 := Lib.hid (And.intro (show Blk w1 (w.heap.size + 1 + 1) 5 (Vb (big 8 num)) from by have h := hB; simp only [World.size_drew, World.size_alloc] at h; exact h) (And.intro (below_drew H0.out.2.2.1 hW) (blk_drew H0.out.2.1 hW))); clear hB hW)
      | (go_at_call 53; (with_reducible refine (inBytes4 _ m (by omega)).mono ?_); rintro e w2 ⟨rfl, hB, hW⟩; have e0 := cell_below d0 hW; have e1 := cell_below d1 hW; have H2 := Lib.hid (And.intro hB (And.intro (H1.out.1.below hW H1.out.1.lt) (And.intro (below_of H1.out.2.1 hW) (H1.out.2.2.below hW H1.out.2.2.lt)))); clear hB hW))
  have hq := Blk.new w2 23 [.slice (some ⟨w.heap.size + 1 + 1, 0, none⟩) 8 8, .slice (some ⟨w1.heap.size, 0, none⟩) 4 4]
  have hb := new_below w2 (.cells #[.slice (some ⟨w.heap.size + 1 + 1, 0, none⟩) 8 8, .slice (some ⟨w1.heap.size, 0, none⟩) 4 4] 23)
  have hbel := below_of H2.out.2.2.1 hb
  have hres : Blk (w2.alloc (.cells #[.slice (some ⟨w.heap.size + 1 + 1, 0, none⟩) 8 8, .slice (some ⟨w1.heap.size, 0, none⟩) 4 4] 23)) (w.heap.size + 1) 80 (List.replicate 32 (.int .u8 0)) := H2.out.2.2.2.below hb H2.out.2.2.2.lt
  have hop : OParts w.heap.size (w2.alloc (.cells #[.slice (some ⟨w.heap.size + 1 + 1, 0, none⟩) 8 8, .slice (some ⟨w1.heap.size, 0, none⟩) 4 4] 23)) (.slice (some ⟨w2.heap.size, 0, none⟩) 2 2) 2 [big 8 num, big 4 m] := by
    have hs1 : w1.heap.size ≤ w2.heap.size := by have := H2.out.1.lt; omega
    refine OParts.two (by have := H2.out.2.2.1.size; omega) hq ((Bts.whole H2.out.2.1 (.inl rfl) trivial (big_length _ _) (by omega)).below hb) ((Bts.whole H2.out.1 (.inl rfl) trivial (big_length _ _) (by omega)).below hb)
  have H3 := Lib.hid (And.intro hbel (And.intro hres hop))
  have l0 := cell_below e0 hb
  have l1 := cell_below e1 hb
  clear hq hb hbel hres hop k0 k1 d0 d1 e0 e1
  generalize w2.alloc (.cells #[.slice (some ⟨w.heap.size + 1 + 1, 0, none⟩) 8 8, .slice (some ⟨w1.heap.size, 0, none⟩) 4 4] 23) = w3 at *
  go_wp2_with fail
  go_loopw [17, 3] (fun iv tv wx => ∃ i : Nat, i ≤ m ∧ iv = .int .i64 i ∧ OParts w.heap.size wx tv (2 + 2 * i) (big 8 num :: big 4 m :: (ws.take i).flatMap fun p => [big 4 p.1.toNat, p.2]) ∧ Blk wx (w.heap.size + 1) 80 (List.replicate 32 (.int .u8 0)) ∧ Below w.heap.size w wx) (fun iv _ _ => m - (intOf iv).toNat)
  case atStart => exact ⟨0, Nat.zero_le _, rfl, H3.out.2.2, H3.out.2.1, H3.out.1⟩
  case round =>
    clear l0 l1
    obtain ⟨i, hi, rfl, h1, h2, h3⟩ := hrel
    by_cases hlt : i < m
    · obtain ⟨p, hp⟩ : ∃ p, ws[i]? = some p := ⟨_, List.getElem?_eq_getElem (by have := H0.out.2.2.2.2.2.2; omega)⟩
      obtain ⟨g, Q, m2, k2, rfl, hg, hAg, c0, c1, hl2, hbt, hmk, hk⟩ := (H0.out.2.2.2.2.1.below h3).at_ hp
      obtain ⟨q0, q1, q2⟩ := H0.out.2.2.2.2.2.1 p (List.mem_of_getElem? hp)
      obtain ⟨q, hq⟩ : ∃ q : Nat, p.1 = q := ⟨p.1.toNat, by omega⟩
      rw [hq] at c0
      have hqb : q ≤ 4294967296 := by omega
      obtain ⟨cells, ho, hcl, hxl, hcs⟩ := h1
      have hsz := h3.size
      have hb := new_below wr (.cells #[.int .i64 (q : Int), .slice Q m2 k2] 55)
      have ⟨k0, k1⟩ := blk_pair (Blk.new wr 55 [.int .i64 (q : Int), .slice Q m2 k2])
      have HR := Lib.hid (And.intro h2 (And.intro h3 (And.intro hp (And.intro hbt (And.intro ho (And.intro hcl (And.intro hxl hcs)))))))
      have HB := Lib.hid hb
      have HQ := Lib.hid hq
      clear h2 h3 hp hbt ho hcl hxl hcs hb q0 q1 q2 hq hl2
      go_wp2_with fail
      go_region_held3 (fun w' => w'.cell? ⟨wr.heap.size, 0, none⟩ = some (.int .i64 q) ∧ w'.cell? ⟨wr.heap.size, 1, none⟩ = some (.slice Q m2 k2)) (first | exact ⟨f0, f1⟩ | exact ⟨cell_below e0 (new_below _ _), cell_below e1 (new_below _ _)⟩ | exact ⟨e0, e1⟩ | exact ⟨k0, k1⟩)
        (first
          | (go_at_call 53; (with_reducible refine (inBytes4 _ q (by omega)).mono ?_); rintro e w5 ⟨rfl, hB, hW⟩; have e0 := cell_drew k0 hW; have e1 := cell_drew k1 hW; have H5 := Lib.hid (And.intro (show Blk w5 (wr.heap.size + 1) 5 (Vb (big 4 q)) from by have h := hB; simp only [World.size_drew, World.size_alloc] at h; exact h) (And.intro (below_drew HB.out hW) (blk_drew (Blk.new wr 55 [.int .i64 (q : Int), .slice Q m2 k2]) hW))); clear hB hW)
          | (refine step_append_lies _ rfl (.tmp 21) (.tmp 27) 97 rfl w.heap.size 23 i1 (.slice none 0 0) 1 24 Tryd.underlying97 HJ.out.1 HJ.out.2.1 HJ.out.2.2.1 HJ.out.2.2.2 rfl (by decide) u3 (2 + 2 * i) cells rfl ((own_below HR.out.2.2.2.2.1 H5.out.2.1).alloc _) ⟨w5.heap.size, 0, none⟩ 2 2 [.slice (some ⟨wr.heap.size + 1, 0, none⟩) 4 4, .slice Q m2 k2] rfl rfl (new_row w5 [_, _] 23) (slices_one _ _ _ _ _ _) (by decide) (by unfold maxLen; omega) (by omega) (by have := H5.out.2.1.size; simp; omega) (w5.heap.size + 1) (by simp) ?_; intro g3 cap3 w6 ho6 hg6 hw6 hl6; have hown5 := (own_below HR.out.2.2.2.2.1 H5.out.2.1).alloc (.cells #[.slice (some ⟨wr.heap.size + 1, 0, none⟩) 4 4, .slice Q m2 k2] 23); have hbk6 := (H5.out.2.2.alloc (.cells #[.slice (some ⟨wr.heap.size + 1, 0, none⟩) 4 4, .slice Q m2 k2] 23)).grown hg6 (fun e => own_blk_ne hown5 (H5.out.2.2.alloc _) (by decide) e.symm); have ⟨f0, f1⟩ := blk_pair hbk6; have H6 := Lib.hid (And.intro ho6 (And.intro hg6 hown5)); clear ho6 hg6 hw6 hl6 hown5 hbk6))
      go_wp2_with fail
      have hb5 := new_below w5 (.cells #[.slice (some ⟨wr.heap.size + 1, 0, none⟩) 4 4, .slice Q m2 k2] 23)
      have hbel5 := below_of H5.out.2.1 hb5
      have hbel6 : Below w.heap.size w w6 := (HR.out.2.1.trans (hbel5.mono hsz)).grown H6.out.2.1 (by have := hbel5.size; omega) (fun q hq => own_ge H6.out.2.2 q hq)
      have hres6 : Blk w6 (w.heap.size + 1) 80 (List.replicate 32 (.int .u8 0)) := (HR.out.1.below hbel5 HR.out.1.lt).grown H6.out.2.1 (fun e => own_blk_ne H6.out.2.2 (HR.out.1.below hbel5 HR.out.1.lt) (by decide) e.symm)
      have hop6 : OParts w.heap.size w6 (.slice (some ⟨g3, 0, none⟩) (2 + 2 * i + 2) cap3) (2 + 2 * i + 2) ((big 8 num :: big 4 m :: (ws.take i).flatMap fun p => [big 4 p.1.toNat, p.2]) ++ [big 4 q, p.2]) := by
        refine OParts.snoc2 HR.out.2.2.2.2.2.2.1 HR.out.2.2.2.2.2.1 (fun j x hx => ?_) H6.out.1 ?_ ?_
        · obtain ⟨u, hu, hbu⟩ := HR.out.2.2.2.2.2.2.2 j x hx
          exact ⟨u, hu, (hbu.below hbel5).grown H6.out.2.2 H6.out.2.1 (by decide) (by decide)⟩
        · exact ((Bts.whole H5.out.1 (.inl rfl) trivial (big_length _ _) (by omega)).below hb5).grown H6.out.2.2 H6.out.2.1 (by decide) (by decide)
        · exact ((HR.out.2.2.2.1.mono (fun _ _ _ => trivial)).below hbel5).grown H6.out.2.2 H6.out.2.1 (by decide) (by decide)
      have HE := Lib.hid (And.intro hop6 (And.intro hres6 hbel6))
      clear hb5 hbel5 hbel6 hres6 hop6
      go_wp2_with fail
      go_roundw
      case rel =>
        refine ⟨i + 1, by omega, by go_num, ?_, HE.out.2.1, HE.out.2.2⟩
        rw [take_snoc_ HR.out.2.2.1, txtsOf_snoc, show p.1.toNat = q by have := HQ.out; omega, show 2 + 2 * (i + 1) = 2 + 2 * i + 2 by omega]
        exact HE.out.1
      case measure => simp [intOf]; omega
    · obtain rfl : i = m := by omega
      rw [List.take_of_length_le (by have := H0.out.2.2.2.2.2.2; omega)] at h1
      have hpt := (h1.parts (by omega))
      obtain ⟨g1, cap1, vs1, e1, _, _, _, _, _, _⟩ := id hpt
      have hl1 : (txtsOf num ws).length = 2 + 2 * i := by obtain ⟨_, _, _, h, _⟩ := h1; unfold txtsOf; rw [H0.out.2.2.2.2.2.2]; exact h
      have hpt' : Parts (fun _ => True) wr u3 (txtsOf num ws) := by unfold txtsOf; rw [H0.out.2.2.2.2.2.2]; exact hpt
      have e1' : u3 = .slice (some ⟨g1, 0, none⟩) (2 + 2 * i) cap1 := by obtain ⟨_, _, _, h, _⟩ := h1; rw [← h]; exact e1
      rw [e1'] at hpt' ⊢
      have htx := hpt'.txts.1.txts
      have HX := Lib.hid (And.intro htx (And.intro h2 h3))
      have HT := Lib.hid (show digOf ks num ws = sha ks (framesOf (txtsOf num ws)) from rfl)
      have hall : ∀ x ∈ txtsOf num ws, x.length ≤ 300 := txts_small _ _ (fun p hp => by have := H0.out.2.2.2.2.2.1 p hp; omega)
      have HALL := Lib.hid hall
      clear h1 h2 h3 hpt e1 hpt' htx hl1 e1' hall
      go_wp2_with fail
      refine (framed_any ks wr _ (2 + 2 * i) cap1 (txtsOf num ws) (H0.out.2.2.2.1.below HX.out.2.2 hpos) HX.out.1 (by omega) HALL.out).mono ?_
      rintro e w7 ⟨rfl, h7⟩
      have H7 := Lib.hid (And.intro (HX.out.2.1.below h7 HX.out.2.1.lt) (HX.out.2.2.trans (h7.mono HX.out.2.2.size)))
      clear h7
      have hd := sha_length ks (framesOf (txtsOf num ws))
      generalize sha ks (framesOf (txtsOf num ws)) = d at hd HT ⊢
      have HD := Lib.hid hd
      clear hd HALL HX
      go_wp2_with (refine wpList_store_blk rfl 80 (.tmp 2) (.tmp 31) rfl (w.heap.size + 1) 0 (Vb d) rfl rfl H7.out.1 (by simp [Vb_length, HD.out]) (info31.trans (by simp [Vb_length, HD.out])) (Vb_oneCell _) ?_; intro w8 hA hO)
      rw [over_whole (by simp [Vb_length, HD.out])] at hA
      refine bodyPost_ret (v := .agg (Vb d).toArray) ?_ rfl ⟨by rw [HT.out], ?_⟩
      · exact ret_cell rfl rfl (run_loadVar_mid _ _ 0 80 _ _ hA.range Tryd.underlying80 rfl (info31.trans (by simp [Vb_length, HD.out])))
      · exact H7.out.2.trans (hO.below (B := w.heap.size) H7.out.2.size (by simp))
end Go.Proofs.YtfkdpndcoegfpaaDoor
end

/-
  bytes.Equal of known bytes; doneBy: the number that a head tells. Conditions: the bytes are known; the constants lie in their variable.
-/

section
set_option maxRecDepth 100000
set_option linter.unusedSimpArgs false
set_option linter.unusedVariables false
namespace Go.Proofs.YtfkdpndcoegfpaaDoor
open Go.RowKit

theorem bytesOf_inj {xs ys : List B8} (h : Lib.bytesOf (xs.map nb) = Lib.bytesOf (ys.map nb)) : xs = ys := by
  unfold Lib.bytesOf at h
  rw [List.map_map, List.map_map] at h
  refine (List.map_inj_right (fun a b hab => ?_)).1 h
  have h2 := congrArg UInt8.toNat hab
  simp only [Function.comp, nb, Int.toNat_natCast, UInt8.toNat_ofNat'] at h2
  have h3 := a.isLt
  have h4 := b.isLt
  exact BitVec.eq_of_toNat_eq (by omega)
theorem Bts.bytesIn {A : Nat → Prop} {w : World} {P : Option Addr} {n c : Nat} {xs : List B8} (h : Bts A w (.slice P n c) xs) : Lib.BytesIn w P n (xs.map nb) := by
  obtain ⟨hl, hc⟩ := h.cells
  by_cases hn : 0 < n
  · obtain ⟨g, o, rfl, _, _, hcell⟩ := hc hn
    refine Lib.BytesIn.of_cells (fun i hi => ?_)
    rw [add_off, hcell i (.int .u8 (nb (xs.getD i 0))) ?_]
    · rw [List.getD_eq_getElem?_getD, List.getD_eq_getElem?_getD, List.getElem?_map, List.getElem?_eq_getElem (by omega)]
      rfl
    · rw [Vb_get, List.getD_eq_getElem?_getD, List.getElem?_eq_getElem (by omega)]
      rfl
  · obtain rfl : n = 0 := by omega
    exact Lib.BytesIn.nil w P _
theorem equal_bts {A A' : Nat → Prop} {w : World} {P Q : Option Addr} {m n c d : Nat} {xs ys : List B8} (hx : Bts A w (.slice P m c) xs) (hy : Bts A' w (.slice Q n d) ys) {b : Bool} (hb : decide (xs = ys) = b) :
    Calls Tryd.prog 59 #[.slice P m c, .slice Q n d] w fun e w' => e = .returned (.bool b) ∧ w = w' := by
  refine (Tryd.bytes_Equal_all P Q m c n d (xs.map nb) (ys.map nb) w (by rw [List.length_map]; exact hx.cells.1) (by rw [List.length_map]; exact hy.cells.1) hx.bytesIn hy.bytesIn).mono fun e w' ⟨he, hw⟩ => ⟨?_, hw.symm⟩
  rw [he, ← hb]
  congr 2
  rw [Bool.eq_iff_iff, beq_iff_eq, decide_eq_true_eq]
  exact ⟨bytesOf_inj, fun h => by rw [h]⟩

def zeros64 : List B8 := List.replicate 64 0
def top60 : Nat := 1152921504606846976
/-- The number that a head tells, if the head is right. -/
def doneB (ks : List B32) (b : List B8) : Option Nat :=
  if b = zeros64 then some 0 else if fromB (sub b 0 8) ≤ top60 ∧ b = headB ks (fromB (sub b 0 8)) then some (fromB (sub b 0 8)) else none
/-- What doneBy answers. -/
def donePost (r : Option Nat) (w : World) (e : Ending) (w' : World) : Prop := (match r with | some k => e = .returned (.tuple #[.int .i64 k, .bool true]) | none => e = .returned (.tuple #[.int .i64 0, .bool false])) ∧ Below w.heap.size w w'

set_option maxHeartbeats 1000000 in
theorem doneBy_any (ks : List B32) (w : World) (A : Nat → Prop) (g o c : Nat) (b : List B8) (hK : Roots ks w) (hx : Bts A w (.slice (some ⟨g, o, none⟩) 64 c) b) (hc : 64 ≤ c) (hcm : c ≤ 9223372036854775807) :
    Calls Tryd.prog 45 #[.slice (some ⟨g, o, none⟩) 64 c] w (donePost (doneB ks b) w) := by
  have hpos := hK.pos
  have hxl := hx.cells.1
  have H := Lib.hid (And.intro hx hK)
  clear hx hK
  by_cases hz : b = zeros64
  · have hdz : decide (b = zeros64) = true := by simpa using hz
    have hr : doneB ks b = some 0 := by unfold doneB; rw [if_pos hz]
    have HR := Lib.hid hr
    have HD := Lib.hid hdz
    clear hz hr hdz
    go_enter Tryd.func45, Tryd.ntmps45
    go_wp2_with (first
      | (go_at_call 47; refine (sector_none _).mono ?_; rintro e w1 ⟨rfl, hB, hW⟩; have H1 := Lib.hid (And.intro hB hW); clear hB hW)
      | (go_at_call 59; refine (equal_bts (H.out.1.below H1.out.2) (Bts.whole H1.out.1 (.inl rfl) (A := fun _ => True) trivial (by simp) (by omega)) HD.out).mono ?_; rintro e w2 ⟨rfl, rfl⟩))
    go_ret2
    refine ⟨?_, H1.out.2⟩
    rw [HR.out]
    rfl
  · have hdz : decide (b = zeros64) = false := by simpa using hz
    obtain ⟨k, hk⟩ : ∃ k, fromB (sub b 0 8) = k := ⟨_, rfl⟩
    have HD := Lib.hid hdz
    have HK := Lib.hid hk
    have hr : doneB ks b = if k ≤ top60 ∧ b = headB ks k then some k else none := by unfold doneB; rw [if_neg hz, hk]
    clear hz hdz hk
    by_cases h6 : k ≤ top60
    · have hgt : decide ((1152921504606846976 : Int) < (k : Int)) = false := by simp; unfold top60 at h6; omega
      have hkb : k ≤ 9223372036854775807 := Nat.le_trans h6 (by decide)
      by_cases hb : b = headB ks k
      · rw [if_pos ⟨h6, hb⟩] at hr
        have HR := Lib.hid hr
        have HDB := Lib.hid (show decide (b = headB ks k) = true by simpa using hb)
        clear hr hb h6
        go_enter Tryd.func45, Tryd.ntmps45
        go_wp2_with (go_at_call 47; refine (sector_none _).mono ?_; rintro e w1 ⟨rfl, hB, hW⟩; have H1 := Lib.hid (And.intro hB hW); clear hB hW)
        refine (equal_bts (H.out.1.below H1.out.2) (Bts.whole H1.out.1 (.inl rfl) (A := fun _ => True) trivial (by simp) (by omega)) HD.out).mono ?_
        rintro e w2 ⟨rfl, rfl⟩
        go_wp2_with (first | (go_at_call 60; refine (fromBytes_any _ A _ 8 c (sub b 0 8) (by exact (H.out.1.below H1.out.2).sub_ (k := 0) (n := 8) (c' := c) (by omega) (by omega) hcm) (by omega)).mono ?_; rw [HK.out]; rintro e w2 ⟨rfl, rfl⟩) | (go_at_call 41; refine (head_any ks _ k (H.out.2.below H1.out.2 hpos) hkb).mono ?_; rintro e w3 ⟨g3, rfl, hg3, hB, hW⟩; have H3 := Lib.hid (And.intro hB hW); clear hB hW))
        refine (equal_bts ((H.out.1.below H1.out.2).below H3.out.2) (Bts.whole H3.out.1 (.inl rfl) (A := fun _ => True) trivial (headB_length _ _) (by omega)) HDB.out).mono ?_
        rintro e w2 ⟨rfl, rfl⟩
        go_wp2_with fail
        go_ret2
        refine ⟨?_, below_of H1.out.2 H3.out.2⟩
        rw [HR.out]
        rfl
      · rw [if_neg (fun h => hb h.2)] at hr
        have HR := Lib.hid hr
        have HDB := Lib.hid (show decide (b = headB ks k) = false by simpa using hb)
        clear hr hb h6
        go_enter Tryd.func45, Tryd.ntmps45
        go_wp2_with (go_at_call 47; refine (sector_none _).mono ?_; rintro e w1 ⟨rfl, hB, hW⟩; have H1 := Lib.hid (And.intro hB hW); clear hB hW)
        refine (equal_bts (H.out.1.below H1.out.2) (Bts.whole H1.out.1 (.inl rfl) (A := fun _ => True) trivial (by simp) (by omega)) HD.out).mono ?_
        rintro e w2 ⟨rfl, rfl⟩
        go_wp2_with (first | (go_at_call 60; refine (fromBytes_any _ A _ 8 c (sub b 0 8) (by exact (H.out.1.below H1.out.2).sub_ (k := 0) (n := 8) (c' := c) (by omega) (by omega) hcm) (by omega)).mono ?_; rw [HK.out]; rintro e w2 ⟨rfl, rfl⟩) | (go_at_call 41; refine (head_any ks _ k (H.out.2.below H1.out.2 hpos) hkb).mono ?_; rintro e w3 ⟨g3, rfl, hg3, hB, hW⟩; have H3 := Lib.hid (And.intro hB hW); clear hB hW))
        refine (equal_bts ((H.out.1.below H1.out.2).below H3.out.2) (Bts.whole H3.out.1 (.inl rfl) (A := fun _ => True) trivial (headB_length _ _) (by omega)) HDB.out).mono ?_
        rintro e w2 ⟨rfl, rfl⟩
        go_wp2_with fail
        go_ret2
        refine ⟨?_, below_of H1.out.2 H3.out.2⟩
        rw [HR.out]
        rfl
    · rw [if_neg (fun h => h6 h.1)] at hr
      have hgt : decide ((1152921504606846976 : Int) < (k : Int)) = true := by simp; unfold top60 at h6; omega
      have HR := Lib.hid hr
      clear hr h6
      go_enter Tryd.func45, Tryd.ntmps45
      go_wp2_with (go_at_call 47; refine (sector_none _).mono ?_; rintro e w1 ⟨rfl, hB, hW⟩; have H1 := Lib.hid (And.intro hB hW); clear hB hW)
      refine (equal_bts (H.out.1.below H1.out.2) (Bts.whole H1.out.1 (.inl rfl) (A := fun _ => True) trivial (by simp) (by omega)) HD.out).mono ?_
      rintro e w2 ⟨rfl, rfl⟩
      go_wp2_with (go_at_call 60; refine (fromBytes_any _ A _ 8 c (sub b 0 8) (by exact (H.out.1.below H1.out.2).sub_ (k := 0) (n := 8) (c' := c) (by omega) (by omega) hcm) (by omega)).mono ?_; rw [HK.out]; rintro e w2 ⟨rfl, rfl⟩)
      go_ret2
      refine ⟨?_, H1.out.2⟩
      rw [HR.out]
      rfl
end Go.Proofs.YtfkdpndcoegfpaaDoor
end

/-
  note: the sector that the journal has ahead of a write's bytes. Conditions: numbers aren't below 0; the place is one of the writes'.
-/

section
set_option maxRecDepth 100000
set_option linter.unusedSimpArgs false
set_option linter.unusedVariables false
namespace Go.Proofs.YtfkdpndcoegfpaaDoor
open Go.RowKit

theorem slices5_one {A B C D E : Option Addr} {a b c d e a' b' c' d' e' : Nat} : ∀ u ∈ [Value.slice A a a', .slice B b b', .slice C c c', .slice D d d', .slice E e e'], u.oneCell' = true := by
  intro u hu
  simp only [List.mem_cons, List.not_mem_nil, or_false] at hu
  rcases hu with rfl | rfl | rfl | rfl | rfl <;> rfl

theorem parts5 {A : Nat → Prop} {w : World} {u0 u1 u2 u3 u4 : Value} {x0 x1 x2 x3 x4 : List B8} (h0 : Bts A w u0 x0) (h1 : Bts A w u1 x1) (h2 : Bts A w u2 x2) (h3 : Bts A w u3 x3) (h4 : Bts A w u4 x4) :
    ∀ (i : Nat) v x, [u0, u1, u2, u3, u4][i]? = some v → [x0, x1, x2, x3, x4][i]? = some x → Bts A w v x := by
  intro i v x hv hx
  match i, hv, hx with
  | 0, hv, hx => simp at hv hx; subst hv hx; exact h0
  | 1, hv, hx => simp at hv hx; subst hv hx; exact h1
  | 2, hv, hx => simp at hv hx; subst hv hx; exact h2
  | 3, hv, hx => simp at hv hx; subst hv hx; exact h3
  | 4, hv, hx => simp at hv hx; subst hv hx; exact h4
  | k + 5, hv, _ => simp at hv

set_option maxHeartbeats 2000000 in
theorem note_any (w : World) (A : Nat → Prop) (num m : Nat) (P : Option Addr) (c : Nat) (ws : List (Int × List B8)) (i : Nat) (p : Int × List B8) (q : Nat) (d : List B8) (hw : Wrs A w (.slice P m c) ws) (hp : ws[i]? = some p) (hq : p.1 = q) (hqb : q ≤ 4294967296) (hnum : num ≤ 9223372036854775807) (hm : m ≤ 1024) (hd : d.length = 32) :
    Calls Tryd.prog 39 #[.agg #[.int .i64 num, .slice P m c], .int .i64 i, .agg (Vb d).toArray] w fun e w' => ∃ g, e = .returned (.slice (some ⟨g, 0, none⟩) 64 64) ∧ w.heap.size ≤ g ∧ Blk w' g 5 (Vb (noteB num i m q d)) ∧ Below w.heap.size w w' := by
  have hz := zero32
  have hs32 := slice32
  have hlen := hw.len
  have him : i < m := by have := (List.getElem?_eq_some_iff.1 hp).1; omega
  obtain ⟨g0, Q, m2, k2, rfl, hg, hAg, c0, c1, hl2, hbt, hmk, hk⟩ := hw.at_ hp
  rw [hq] at c0
  have hb1 := new_below w (.cells #[.int .i64 num, .slice (some ⟨g0, 0, none⟩) m c] 60)
  have hk1 := Blk.new w 60 [.int .i64 num, .slice (some ⟨g0, 0, none⟩) m c]
  have hb2 := new_below (w.alloc (.cells #[.int .i64 num, .slice (some ⟨g0, 0, none⟩) m c] 60)) (.cells (Vb d).toArray 80)
  have hk2 := Blk.new (w.alloc (.cells #[.int .i64 num, .slice (some ⟨g0, 0, none⟩) m c] 60)) 80 (Vb d)
  rw [World.size_alloc] at hk2
  have hk1' := hk1.below hb2 hk1.lt
  have ⟨k0, k1⟩ := blk_pair hk1'
  have k2' := cell_below c0 (below_of hb1 hb2)
  have H0 := Lib.hid (And.intro (below_of hb1 hb2) (And.intro hk2 hd))
  clear hb1 hk1 hb2 hk2 hk1' hw hp hq hbt hl2 hlen c0 c1 hd
  go_enter Tryd.func39, Tryd.ntmps39
  go_wp2_with fail
  have hi0 : (0 : Int) ≤ (i : Int) := by omega
  have hi1 : (i : Int) < (m : Int) := by omega
  go_region_held3 (fun w' => w'.cell? ⟨w.heap.size, 0, none⟩ = some (.int .i64 num) ∧ w'.cell? ⟨w.heap.size, 1, none⟩ = some (.slice (some ⟨g0, 0, none⟩) m c) ∧ w'.cell? ⟨g0, i * 2, none⟩ = some (.int .i64 q))
    (first | exact ⟨k0, k1, k2'⟩ | exact ⟨a0, a1, a2⟩ | exact ⟨b0, b1, b2⟩ | exact ⟨c0, c1, c2⟩ | exact ⟨d0, d1, d2⟩ | exact ⟨cell_below d0 (new_below _ _), cell_below d1 (new_below _ _), cell_below d2 (new_below _ _)⟩ | exact ⟨f0, f1, f2⟩)
    (first
      | (go_at_call 53; (with_reducible refine (inBytes8 _ num hnum).mono ?_); rintro e w1 ⟨rfl, hB, hW⟩; have a0 := cell_drew k0 hW; have a1 := cell_drew k1 hW; have a2 := cell_drew k2' hW; have H1 := Lib.hid (And.intro (below_drew H0.out.1 hW) (And.intro (blk_drew H0.out.2.1 hW) (show Blk w1 (w.heap.size + 1 + 1) 5 (Vb (big 8 num)) from by have h := hB; simp only [World.size_drew, World.size_alloc] at h; exact h))); clear hB hW)
      | (go_at_call 53; (with_reducible refine (inBytes4 _ i (by omega)).mono ?_); rintro e w2 ⟨rfl, hB, hW⟩; have b0 := cell_below a0 hW; have b1 := cell_below a1 hW; have b2 := cell_below a2 hW; have H2 := Lib.hid (And.intro (below_of H1.out.1 hW) (And.intro (H1.out.2.1.below hW H1.out.2.1.lt) (And.intro (H1.out.2.2.below hW H1.out.2.2.lt) hB))); clear hB hW)
      | (go_at_call 53; (with_reducible refine (inBytes4 _ m (by omega)).mono ?_); rintro e w3 ⟨rfl, hB, hW⟩; have c0 := cell_below b0 hW; have c1 := cell_below b1 hW; have c2 := cell_below b2 hW; have H3 := Lib.hid (And.intro (below_of H2.out.1 hW) (And.intro (H2.out.2.1.below hW H2.out.2.1.lt) (And.intro (H2.out.2.2.1.below hW H2.out.2.2.1.lt) (And.intro (H2.out.2.2.2.below hW H2.out.2.2.2.lt) hB)))); clear hB hW)
      | (go_at_call 53; (with_reducible refine (inBytes4 _ q (by omega)).mono ?_); rintro e w4 ⟨rfl, hB, hW⟩; have d0 := cell_below c0 hW; have d1 := cell_below c1 hW; have d2 := cell_below c2 hW; have H4 := Lib.hid (And.intro (below_of H3.out.1 hW) (And.intro (H3.out.2.1.below hW H3.out.2.1.lt) (And.intro (H3.out.2.2.1.below hW H3.out.2.2.1.lt) (And.intro (H3.out.2.2.2.1.below hW H3.out.2.2.2.1.lt) (And.intro (H3.out.2.2.2.2.below hW H3.out.2.2.2.2.lt) hB))))); clear hB hW)
      | (go_at_call 47; refine (sector_join _ (fun _ => True) w4.heap.size 5 5 _ [big 8 num, big 4 i, big 4 m, big 4 q, d] (by omega) (by omega) rfl rfl (Blk.new w4 23 [.slice (some ⟨w.heap.size + 1 + 1, 0, none⟩) 8 8, .slice (some ⟨w1.heap.size, 0, none⟩) 4 4, .slice (some ⟨w2.heap.size, 0, none⟩) 4 4, .slice (some ⟨w3.heap.size, 0, none⟩) 4 4, .slice (some ⟨w.heap.size + 1, 0, none⟩) 32 32]) (parts5 (Bts.below (Bts.whole H4.out.2.2.1 (.inl rfl) trivial (big_length _ _) (by omega)) (new_below _ _)) (Bts.below (Bts.whole H4.out.2.2.2.1 (.inl rfl) trivial (big_length _ _) (by omega)) (new_below _ _)) (Bts.below (Bts.whole H4.out.2.2.2.2.1 (.inl rfl) trivial (big_length _ _) (by omega)) (new_below _ _)) (Bts.below (Bts.whole H4.out.2.2.2.2.2 (.inl rfl) trivial (big_length _ _) (by omega)) (new_below _ _)) (Bts.below (Bts.whole H4.out.2.1 (.inr rfl) trivial H0.out.2.2 (by omega)) (new_below _ _))) (Nat.le_refl _) (by simp [big_length, H0.out.2.2])).mono ?_; rintro e w5 ⟨rfl, hB, hW⟩; have f0 := cell_below (cell_below d0 (new_below _ _)) hW; have f1 := cell_below (cell_below d1 (new_below _ _)) hW; have f2 := cell_below (cell_below d2 (new_below _ _)) hW; have H5 := Lib.hid (And.intro hB (below_of (below_of H4.out.1 (new_below _ _)) hW)); have hs5 := H4.out.1.size; clear hB hW))
  go_wp2_with fail
  go_ret
  refine ⟨_, rfl, ?_, ?_, H5.out.2⟩
  · omega
  · have := H5.out.1
    unfold noteB
    simpa using this
end Go.Proofs.YtfkdpndcoegfpaaDoor
end
