/-
  The memory words of the log: what a step of a disk leaves, slices of bytes, lists of writes, a disk at rest. Plain theorems on worlds; no condition.
-/
import Derived.Test.YtkmkblhmjeeaeaaGreatDoorM6
import Derived.Test.YtkmkblhmjeeaeaaGreatDoorM4
import Derived.RangeFuncOwn
import Derived.Test.YtkmkblhmjeeaeaaGreatDoorM3
import Derived.Test.YtkmkblhmjeeaeaaGreatDoorM2
import Derived.Deep.RegionHeld3
import Derived.Deep.QuietTactic
import Derived.BigQuiet
import Derived.IntWalk
import Derived.Outline
import Derived.Lib.Hide
section
set_option maxRecDepth 100000
set_option linter.unusedSimpArgs false
set_option linter.unusedVariables false
namespace Go.Proofs.YtkmkblhmjeeaeaaGreatDoor
open Go.RowKit

/-- Below B nothing has turned; a block that is not of X and holds no waiting writes is as it was. -/
structure Stp (B : Nat) (X : List Nat) (w w' : World) : Prop where
  below : Below B w w'
  keep : ∀ g t cs, t ≠ 179 → g ∉ X → Blk w g t cs → Blk w' g t cs
  others : ∀ (g : Nat) (o : Obj), w.heap[g]? = some o → o.isCells = false → w'.heap[g]? = some o
theorem Stp.refl (B : Nat) (X : List Nat) (w : World) : Stp B X w w := ⟨Below.refl _ _, fun _ _ _ _ _ h => h, fun _ _ h _ => h⟩
theorem Stp.trans {B : Nat} {X : List Nat} {a b c : World} (h : Stp B X a b) (k : Stp B X b c) : Stp B X a c :=
  ⟨h.below.trans k.below, fun g t cs h1 h2 hb => k.keep g t cs h1 h2 (h.keep g t cs h1 h2 hb), fun g o h1 h2 => k.others g o (h.others g o h1 h2) h2⟩
theorem Stp.size {B : Nat} {X : List Nat} {w w' : World} (h : Stp B X w w') : w.heap.size ≤ w'.heap.size := h.below.size
theorem Stp.mono {B : Nat} {X Y : List Nat} {w w' : World} (h : Stp B X w w') (hX : ∀ g, g ∈ X → g < w.heap.size → g ∈ Y) : Stp B Y w w' :=
  ⟨h.below, fun g t cs h1 h2 hb => h.keep g t cs h1 (fun hg => h2 (hX g hg hb.lt)) hb, h.others⟩
theorem Stp.lower {B C : Nat} {X : List Nat} {w w' : World} (h : Stp B X w w') (hC : C ≤ B) : Stp C X w w' := ⟨h.below.mono hC, h.keep, h.others⟩
theorem Stp.of_below {B : Nat} {X : List Nat} {w w' : World} (hB : B ≤ w.heap.size) (h : Below w.heap.size w w') : Stp B X w w' := ⟨h.mono hB, fun _ _ _ _ _ hb => hb.below h hb.lt, fun g o h1 _ => (h.block g (Array.getElem?_eq_some_iff.1 h1).1).trans h1⟩
theorem Stp.of_only {B : Nat} {X S : List Nat} {w w' : World} (h : Only S w w') (hB : B ≤ w.heap.size) (hS : ∀ k, k ∈ S → B ≤ k)
    (hX : ∀ k, k ∈ S → k ∈ X ∨ ∀ t cs, Blk w k t cs → t = 179) (hC : ∀ k, k ∈ S → ∀ o : Obj, w.heap[k]? = some o → o.isCells = true) : Stp B X w w' :=
  ⟨h.below hB hS, fun g t cs h1 h2 hb => hb.only h fun hg => by
    rcases hX g hg with e | e
    · exact h2 e
    · exact h1 (e t cs hb), fun g o h1 h2 => (h.block g (Array.getElem?_eq_some_iff.1 h1).1 fun hg => by rw [hC g hg o h1] at h2; cases h2).trans h1⟩
theorem blk_cells {w : World} {g : Nat} {t : TypeId} {cs : List Value} (h : Blk w g t cs) {o : Obj} (ho : w.heap[g]? = some o) : o.isCells = true := by
  unfold Blk at h
  rw [h] at ho
  cases ho
  rfl
theorem own_cells {w : World} {N e cells n : Nat} {v : Value} {ys : List Value} (h : w.ownsRow N e cells v n ys) {k : Nat} (hk : v.ownBlock = some k) {o : Obj} (ho : w.heap[k]? = some o) : o.isCells = true := by
  rcases h.2 with ⟨rfl, _⟩ | ⟨g, cap, cur, rfl, _, hb, _⟩
  · cases hk
  · cases hk
    rw [hb] at ho
    cases ho
    rfl
theorem drewN_below (w : World) (n : Nat) : Below w.heap.size w (w.drewN n) := ⟨rfl, rfl, rfl, Nat.le_refl _, fun _ _ => rfl⟩
theorem drew_below (w : World) : Below w.heap.size w w.drew := ⟨rfl, rfl, rfl, Nat.le_refl _, fun _ _ => rfl⟩
theorem new_below (w : World) (o : Obj) : Below w.heap.size w (w.alloc o) := (Below.refl _ _).alloc (Nat.le_refl _) _

theorem U_Vb (xs : List B8) : U (xs.map nb) = Vb xs := by simp [U, Vb]
theorem map_nb_inj {xs ys : List B8} (h : xs.map nb = ys.map nb) : xs = ys := (List.map_inj_right (fun a b hab => nb_inj hab)).1 h

/-- The kinds of blocks in which bytes lie. -/
def BK (t : TypeId) : Prop := t = 5 ∨ t = 168
theorem BK.ne {t k : TypeId} (h : BK t) (h1 : k ≠ 5) (h2 : k ≠ 168) : t ≠ k := by
  rcases h with rfl | rfl
  · exact fun e => h1 e.symm
  · exact fun e => h2 e.symm
/-- A slice of bytes: nil, or in a block of bytes that A allows. -/
def Bts (A : Nat → Prop) (w : World) (v : Value) (xs : List B8) : Prop :=
  (v = .slice none 0 0 ∧ xs = []) ∨ ∃ g o cap t cs, v = .slice (some ⟨g, o, none⟩) xs.length cap ∧ A g ∧ BK t ∧ Blk w g t cs ∧ (cs.drop o).take xs.length = Vb xs ∧ xs.length ≤ cap ∧ cap ≤ maxLen
section
variable {A : Nat → Prop} {w w' : World} {v : Value} {xs : List B8}
theorem Bts.empty (A : Nat → Prop) (w : World) : Bts A w (.slice none 0 0) [] := .inl ⟨rfl, rfl⟩
theorem Bts.stp {B : Nat} {X : List Nat} (h : Bts A w v xs) (hs : Stp B X w w') (hX : ∀ g, A g → g ∉ X) : Bts A w' v xs := by
  rcases h with h | ⟨g, o, cap, t, cs, e, hA, hn, hb, ht, h1, h2⟩
  · exact .inl h
  · exact .inr ⟨g, o, cap, t, cs, e, hA, hn, hs.keep g t cs (hn.ne (by decide) (by decide)) (hX g hA) hb, ht, h1, h2⟩
theorem Bts.below (h : Bts A w v xs) (hs : Below w.heap.size w w') : Bts A w' v xs := by
  rcases h with h | ⟨g, o, cap, t, cs, e, hA, hn, hb, ht, h1, h2⟩
  · exact .inl h
  · exact .inr ⟨g, o, cap, t, cs, e, hA, hn, hb.below hs hb.lt, ht, h1, h2⟩
theorem Bts.mono {A' : Nat → Prop} (h : Bts A w v xs) (hA : ∀ g, A g → g < w.heap.size → A' g) : Bts A' w v xs := by
  rcases h with h | ⟨g, o, cap, t, cs, e, ha, hn, hb, ht, h1, h2⟩
  · exact .inl h
  · exact .inr ⟨g, o, cap, t, cs, e, hA g ha hb.lt, hn, hb, ht, h1, h2⟩
theorem Bts.form (h : Bts A w v xs) : ∃ P c, v = .slice P xs.length c ∧ xs.length ≤ c ∧ c ≤ 9223372036854775807 := by
  rcases h with ⟨rfl, rfl⟩ | ⟨g, o, cap, t, cs, rfl, _, _, _, _, h1, h2⟩
  · exact ⟨Option.none, 0, rfl, Nat.le_refl _, by omega⟩
  · exact ⟨some ⟨g, o, Option.none⟩, cap, rfl, h1, by unfold maxLen at h2; omega⟩
theorem Bts.cells {P : Option Addr} {n c : Nat} (h : Bts A w (.slice P n c) xs) : xs.length = n ∧ (0 < n → ∃ g o, P = some ⟨g, o, Option.none⟩ ∧ A g ∧ g < w.heap.size ∧ ∀ j u, (Vb xs)[j]? = some u → w.cell? ⟨g, o + j, Option.none⟩ = some u) := by
  rcases h with ⟨e, rfl⟩ | ⟨g, o, cap, t, cs, e, hA, hn, hb, ht, h1, h2⟩
  · cases e
    exact ⟨rfl, fun h => absurd h (by omega)⟩
  · cases e
    refine ⟨rfl, fun _ => ⟨g, o, rfl, hA, hb.lt, fun j u hu => ?_⟩⟩
    rw [hb.cell]
    rw [← ht, List.getElem?_take] at hu
    split at hu
    · rw [List.getElem?_drop] at hu
      exact hu
    · cases hu
theorem Bts.txtN {P : Option Addr} {n c : Nat} (h : Bts A w (.slice P n c) xs) (p : Nat) (hp : ∀ g, A g → g < w.heap.size → g ≠ p) : TxtN w p P n c xs := by
  have hc := h.cells
  obtain ⟨P', c', e, h1, h2⟩ := h.form
  cases e
  refine ⟨⟨rfl, h1, by unfold maxLen; omega, fun hn => ?_⟩, fun hP => ?_⟩
  · obtain ⟨g, o, rfl, hA, hlt, hcell⟩ := hc.2 hn
    refine ⟨g, o, rfl, hp g hA hlt, fun j hj => hcell j _ ?_⟩
    rw [Vb_get, List.getD_eq_getElem?_getD, List.getElem?_eq_getElem hj]
    rfl
  · rcases h with ⟨e, rfl⟩ | ⟨g, o, cap, t, cs, e, _⟩
    · cases e; exact ⟨rfl, rfl⟩
    · cases e; cases hP
theorem Bts.txtNew {P : Option Addr} {n c : Nat} (h : Bts A w (.slice P n c) xs) : TxtN w w.heap.size P n c xs := h.txtN _ fun g _ hlt => by omega
theorem Bts.of_own {N : Nat} (h : w.ownsRow N 5 1 v xs.length (Vb xs)) : Bts (fun g => N ≤ g) w v xs := by
  rcases h.2 with ⟨rfl, hn⟩ | ⟨g, cap, cur, rfl, hg, hb, h1, h2, _, ht⟩
  · exact .inl ⟨rfl, List.eq_nil_of_length_eq_zero hn⟩
  · refine .inr ⟨g, 0, cap, _, cur.toList, rfl, hg, (.inl rfl), by simpa [Blk] using hb, ?_, h1, h2⟩
    rw [List.drop_zero]
    simpa [Vb_length] using ht
theorem Bts.of_has {N : Nat} {ys : List Int} (h : HasBytes N w v ys) (hy : ys = xs.map nb) (hc : ∀ g n c, v = .slice (some ⟨g, 0, Option.none⟩) n c → n ≤ c ∧ c ≤ maxLen) : Bts (fun g => N ≤ g) w v xs := by
  subst hy
  obtain ⟨g, cap, cs, rfl, hg, hb, ht⟩ := h
  have := hc _ _ _ rfl
  rw [List.length_map] at this ht
  refine .inr ⟨g, 0, cap, _, cs, by rw [List.length_map], hg, (.inl rfl), hb, ?_, this.1, this.2⟩
  rw [List.drop_zero, ht, U_Vb]
theorem Bts.of_blk {g o n t : Nat} {cs : List Value} (hb : Blk w g t cs) (ht : BK t) (hA : A g) (hx : (cs.drop o).take xs.length = Vb xs) (hn : xs.length = n) {c : Nat} (h1 : n ≤ c) (h2 : c ≤ maxLen) : Bts A w (.slice (some ⟨g, o, Option.none⟩) n c) xs := by
  subst hn
  exact .inr ⟨g, o, c, t, cs, rfl, hA, ht, hb, hx, h1, h2⟩
end

/-- A list of writes: nil, or in a block of writes that A allows, each write's bytes likewise. -/
def Wrs (A : Nat → Prop) (w : World) (v : Value) (ws : List (Int × List B8)) : Prop :=
  (v = .slice none 0 0 ∧ ws = []) ∨ ∃ g cap cs, v = .slice (some ⟨g, 0, none⟩) ws.length cap ∧ A g ∧ Blk w g 146 cs ∧ ws.length ≤ cap ∧ cap ≤ maxLen ∧
    ∀ i p, ws[i]? = some p → cs[i * 2]? = some (.int .i64 p.1) ∧ ∃ u, cs[i * 2 + 1]? = some u ∧ Bts A w u p.2
section
variable {A : Nat → Prop} {w w' : World} {v : Value} {ws : List (Int × List B8)}
theorem Wrs.stp {B : Nat} {X : List Nat} (h : Wrs A w v ws) (hs : Stp B X w w') (hX : ∀ g, A g → g ∉ X) : Wrs A w' v ws := by
  rcases h with h | ⟨g, cap, cs, e, hA, hb, h1, h2, hc⟩
  · exact .inl h
  · refine .inr ⟨g, cap, cs, e, hA, hs.keep g _ cs (by decide) (hX g hA) hb, h1, h2, fun i p hp => ?_⟩
    obtain ⟨c0, u, c1, hu⟩ := hc i p hp
    exact ⟨c0, u, c1, hu.stp hs hX⟩
theorem Wrs.below (h : Wrs A w v ws) (hs : Below w.heap.size w w') : Wrs A w' v ws := by
  rcases h with h | ⟨g, cap, cs, e, hA, hb, h1, h2, hc⟩
  · exact .inl h
  · refine .inr ⟨g, cap, cs, e, hA, hb.below hs hb.lt, h1, h2, fun i p hp => ?_⟩
    obtain ⟨c0, u, c1, hu⟩ := hc i p hp
    exact ⟨c0, u, c1, hu.below hs⟩
theorem Wrs.mono {A' : Nat → Prop} (h : Wrs A w v ws) (hA : ∀ g, A g → g < w.heap.size → A' g) : Wrs A' w v ws := by
  rcases h with h | ⟨g, cap, cs, e, ha, hb, h1, h2, hc⟩
  · exact .inl h
  · refine .inr ⟨g, cap, cs, e, hA g ha hb.lt, hb, h1, h2, fun i p hp => ?_⟩
    obtain ⟨c0, u, c1, hu⟩ := hc i p hp
    exact ⟨c0, u, c1, hu.mono hA⟩
theorem Wrs.form (h : Wrs A w v ws) : ∃ P c, v = .slice P ws.length c ∧ ws.length ≤ c ∧ c ≤ 9223372036854775807 := by
  rcases h with ⟨rfl, rfl⟩ | ⟨g, cap, cs, rfl, _, _, h1, h2, _⟩
  · exact ⟨none, 0, rfl, Nat.le_refl _, by omega⟩
  · exact ⟨some ⟨g, 0, none⟩, cap, rfl, h1, by unfold maxLen at h2; omega⟩
theorem Wrs.at_ {P : Option Addr} {n c : Nat} (h : Wrs A w (.slice P n c) ws) {i : Nat} {p : Int × List B8} (hp : ws[i]? = some p) :
    ∃ g Q m k, P = some ⟨g, 0, none⟩ ∧ g < w.heap.size ∧ A g ∧ w.cell? ⟨g, i * 2, none⟩ = some (.int .i64 p.1) ∧ w.cell? ⟨g, i * 2 + 1, none⟩ = some (.slice Q m k) ∧ p.2.length = m ∧ Bts A w (.slice Q m k) p.2 ∧ m ≤ k ∧ k ≤ 9223372036854775807 := by
  rcases h with ⟨e, rfl⟩ | ⟨g, cap, cs, e, hA, hb, h1, h2, hc⟩
  · simp at hp
  · cases e
    obtain ⟨c0, u, c1, hu⟩ := hc i p hp
    obtain ⟨Q, k, rfl, h3, h4⟩ := hu.form
    exact ⟨g, Q, p.2.length, k, rfl, hb.lt, hA, by rw [hb.cell, c0], by rw [hb.cell, c1], rfl, hu, h3, h4⟩
theorem Wrs.len {P : Option Addr} {n c : Nat} (h : Wrs A w (.slice P n c) ws) : ws.length = n := by
  obtain ⟨P', c', e, _⟩ := h.form
  cases e
  rfl
end

/-- A disk with power that never goes: S is what is read of its n sectors; so many writes and flushes were done. -/
def Calm (B D L n : Nat) (S : Nat → List B8) (wr fl : Nat) (w : World) : Prop :=
  ∃ s, Live B D L s w ∧ s.on = true ∧ s.armed = false ∧ s.n = n ∧ (∀ k, k < n → seen s k = (S k).map nb) ∧ s.waits.length ≤ wr ∧ s.wr = wr ∧ s.fl = fl
/-- The same, and nothing waits. -/
def Idle (B D L n : Nat) (S : Nat → List B8) (wr fl : Nat) (w : World) : Prop :=
  ∃ s, IsDisk B w D L (.slice none 0 0) s ∧ s.waits = [] ∧ s.on = true ∧ s.armed = false ∧ s.n = n ∧ (∀ k, k < n → seen s k = (S k).map nb) ∧ s.wr = wr ∧ s.fl = fl
def upd (S : Nat → List B8) (k : Nat) (b : List B8) : Nat → List B8 := fun i => if i = k then b else S i

section
variable {B D L n : Nat} {S : Nat → List B8} {wr fl : Nat} {w w' : World}
theorem Idle.calm (h : Idle B D L n S wr fl w) : Calm B D L n S wr fl w := by
  obtain ⟨s, hd, hw, h1, h2, h3, h4, h5, h6⟩ := h
  exact ⟨s, ⟨_, hd⟩, h1, h2, h3, h4, by rw [hw]; simp, h5, h6⟩
theorem Idle.stp {C : Nat} {X : List Nat} (h : Idle B D L n S wr fl w) (hs : Stp C X w w') (hD : D ∉ X) (hL : L ∉ X) : Idle B D L n S wr fl w' := by
  obtain ⟨s, hd, hw, rest⟩ := h
  refine ⟨s, ⟨hs.keep D _ _ (by decide) hD hd.disk, hs.keep L _ _ (by decide) hL hd.laid, ?_, hd.baseD, hd.baseL, hd.good⟩, hw, rest⟩
  rw [hw]
  exact World.ownsRow_nil _ _ _ _
theorem Idle.below (h : Idle B D L n S wr fl w) (hs : Below w.heap.size w w') : Idle B D L n S wr fl w' := h.stp (X := []) (Stp.of_below (Nat.le_refl _) hs) (by simp) (by simp)
theorem Calm.below (h : Calm B D L n S wr fl w) (hs : Below w.heap.size w w') : Calm B D L n S wr fl w' := by
  obtain ⟨s, hl, rest⟩ := h
  exact ⟨s, hl.below hs, rest⟩
theorem Calm.lt (h : Calm B D L n S wr fl w) : B ≤ D ∧ B ≤ L ∧ D < w.heap.size ∧ L < w.heap.size := by
  obtain ⟨s, hl, _⟩ := h
  exact hl.lt
theorem Idle.lt (h : Idle B D L n S wr fl w) : B ≤ D ∧ B ≤ L ∧ D < w.heap.size ∧ L < w.heap.size := h.calm.lt
theorem Idle.ne (h : Idle B D L n S wr fl w) : L ≠ D := by
  obtain ⟨s, hd, _⟩ := h
  exact hd.laid.ne_ hd.disk (by decide)
theorem seen_length {s : St} (hg : Good s) {k : Nat} (hk : k < s.n) : (seen s k).length = 64 := by
  unfold seen
  split
  · rename_i p hp
    have := List.mem_of_find?_eq_some hp
    exact (hg.sec p (by simpa using this)).2.2
  · rw [List.length_take, List.length_drop, hg.size]
    omega
theorem Calm.sec (h : Calm B D L n S wr fl w) {k : Nat} (hk : k < n) : (S k).length = 64 := by
  obtain ⟨s, hl, _, _, h3, h4, _⟩ := h
  have := seen_length hl.good (k := k) (by omega)
  rw [h4 k hk, List.length_map] at this
  exact this
theorem Idle.sec (h : Idle B D L n S wr fl w) {k : Nat} (hk : k < n) : (S k).length = 64 := h.calm.sec hk
theorem Idle.same {S' : Nat → List B8} (h : Idle B D L n S wr fl w) (hS : ∀ k, k < n → S' k = S k) : Idle B D L n S' wr fl w := by
  obtain ⟨s, hd, hw, h1, h2, h3, h4, h5, h6⟩ := h
  exact ⟨s, hd, hw, h1, h2, h3, fun k hk => by rw [hS k hk]; exact h4 k hk, h5, h6⟩
theorem Idle.bound (h : Idle B D L n S wr fl w) : 1 ≤ n ∧ n ≤ 4096 := by
  obtain ⟨s, hd, _, _, _, h3, _⟩ := h
  have := hd.good.n1
  have := hd.good.n2
  omega

theorem DiskPost.stp {s s' : St} {Y : List Nat} {wv : Value} (hd : IsDisk B w D L wv s) (h : DiskPost B D L Y w s' w') (hB : B ≤ w.heap.size)
    (hY : ∀ k, k ∈ Y → k = D ∨ k = L ∨ wv.ownBlock = some k) : Live B D L s' w' ∧ Stp B [D, L] w w' := by
  obtain ⟨wv', h1, h2⟩ := h
  refine ⟨⟨wv', h1⟩, Stp.of_only h2 hB ?_ ?_ ?_⟩
  · intro k hk
    rcases hY k hk with rfl | rfl | hk
    · exact hd.baseD
    · exact hd.baseL
    · exact (hd.own.lt k hk).1
  · intro k hk
    rcases hY k hk with rfl | rfl | hk
    · exact .inl (by simp)
    · exact .inl (by simp)
    · refine .inr fun t cs hb => ?_
      by_cases ht : t = 179
      · exact ht
      · exact absurd hk (own_blk_ne hd.own hb (fun e => ht e.symm))
  · intro k hk o ho
    rcases hY k hk with rfl | rfl | hk
    · exact blk_cells hd.disk ho
    · exact blk_cells hd.laid ho
    · exact own_cells hd.own hk ho

theorem write_calm (hd : Calm B D L n S wr fl w) (hB : B ≤ w.heap.size) {A : Nat → Prop} {no : Int} {bs : List B8} {P : Option Addr} {m c : Nat} (hb : Bts A w (.slice P m c) bs) (hA : ∀ g, A g → g ≠ D)
    (h1 : 0 ≤ no) (h2 : no < n) (h64 : bs.length = 64) (hwr : wr < 1000000) :
    Calls Tryz.prog 88 #[.pointer (some ⟨D, 0, none⟩), .int .i64 no, .slice P m c] w fun e w' => e = .returned (.int .i64 0) ∧ Calm B D L n (upd S no.toNat bs) (wr + 1) fl w' ∧ Stp B [D, L] w w' := by
  obtain ⟨s, ⟨wv, hl⟩, g1, g2, g3, g4, g5, g6, g7⟩ := hd
  obtain ⟨hm, hc⟩ := hb.cells
  obtain ⟨g, o, rfl, hAg, hlt, hcell⟩ := hc (by omega)
  refine (write_any B w D L wv s no (bs.map nb) (some ⟨g, o, none⟩) m c hl hB (by rw [List.length_map]; exact hm) (fun _ => ⟨_, rfl, hA g hAg, fun j u hu => ?_⟩) (by omega) (by omega)).mono fun e w' ⟨he, hp⟩ => ?_
  · rw [U_Vb] at hu
    rw [add_off]
    exact hcell j u hu
  · have hw : s.write no (bs.map nb) = (0, { s with left := nextLeft s.armed s.left, waits := s.waits ++ [(no, bs.map nb)], wr := s.wr + 1 }) := by
      unfold St.write
      rw [if_neg (by rw [g1]; decide), if_neg (fun h => h ⟨h1, by omega, by rw [List.length_map]; exact h64⟩), if_neg (fun h => by rw [g2] at h; exact absurd h.1 (by decide))]
    rw [hw] at he hp
    obtain ⟨hlive, hstp⟩ := DiskPost.stp hl hp hB (by intro k hk; simp at hk; rcases hk with h | h <;> simp [h])
    refine ⟨he, ⟨_, hlive, g1, g2, g3, fun k hk => ?_, by simp; omega, by simp [g6], g7⟩, hstp⟩
    rw [seen_write (s := s) (no := no.toNat) (bs := bs.map nb) hl.good (by omega) (by rw [List.length_map]; exact h64) (by omega) hlive.good rfl rfl (by rw [show ((no.toNat : Nat) : Int) = no by omega])]
    unfold upd
    by_cases hk' : k = no.toNat
    · rw [if_pos hk', if_pos hk']
    · rw [if_neg hk', if_neg hk']
      exact g4 k hk

theorem flush_calm (hd : Calm B D L n S wr fl w) (hB : B ≤ w.heap.size) (hfl : fl < 1000000) :
    Calls Tryz.prog 89 #[.pointer (some ⟨D, 0, none⟩)] w fun e w' => e = .returned (.int .i64 0) ∧ Idle B D L n S wr (fl + 1) w' ∧ Stp B [D, L] w w' := by
  obtain ⟨s, ⟨wv, hl⟩, g1, g2, g3, g4, g5, g6, g7⟩ := hd
  refine (flush_bare B w D L wv s hl g1 (fun h => by rw [g2] at h; exact absurd h.1 (by decide)) (by omega)).mono fun e w' ⟨he, hd', ho⟩ => ?_
  refine ⟨he, ⟨_, hd', rfl, g1, g2, g3, fun k hk => ?_, g6, by simp [g7]⟩, Stp.of_only ho hB ?_ ?_ ?_⟩
  · rw [seen_laid hl.good (by omega) hd'.good rfl rfl rfl]
    exact g4 k hk
  · intro k hk
    simp only [List.mem_cons, List.not_mem_nil, or_false] at hk
    rcases hk with rfl | rfl
    · exact hl.baseD
    · exact hl.baseL
  · exact fun k hk => .inl hk
  · intro k hk obj hobj
    simp only [List.mem_cons, List.not_mem_nil, or_false] at hk
    rcases hk with rfl | rfl
    · exact blk_cells hl.disk hobj
    · exact blk_cells hl.laid hobj

theorem read_calm (hd : Calm B D L n S wr fl w) {k : Nat} (hk : k < n) :
    Calls Tryz.prog 66 #[.pointer (some ⟨D, 0, none⟩), .int .i64 k] w fun e w' => ∃ v, e = .returned (.tuple #[v, .int .i64 0]) ∧ Bts (fun g => w.heap.size ≤ g) w' v (S k) ∧ Below w.heap.size w w' := by
  obtain ⟨s, ⟨wv, hl⟩, g1, g2, g3, g4, g5, g6, g7⟩ := hd
  refine (read_ok B w D L wv s k hl g1 (by omega)).mono fun e w' ⟨v, he, h1, h2, h3⟩ => ⟨v, he, ?_, h3⟩
  rw [g4 k hk, U_Vb, List.length_map] at h1
  exact Bts.of_own h1

theorem new_idle (w : World) (n : Nat) (h1 : 1 ≤ n) (h2 : n ≤ 4096) : Calls Tryz.prog 21 #[.int .i64 n] w fun e w' => e = .returned (.tuple #[.pointer (some ⟨w.heap.size + 1, 0, none⟩), .int .i64 0]) ∧
    Idle w.heap.size (w.heap.size + 1) w.heap.size n (fun _ => List.replicate 64 0) 0 0 w' ∧ Below w.heap.size w w' :=
  (new_ok w n h1 h2).mono fun _ _ ⟨he, hd, hb⟩ => ⟨he, ⟨_, hd, rfl, rfl, rfl, rfl, fun k hk => by
    unfold seen fresh
    simp only [List.reverse_nil, List.find?_nil, List.drop_replicate, List.take_replicate, List.map_replicate]
    rw [Nat.min_eq_left (by omega)]
    simp [nb], rfl, rfl⟩, hb⟩

theorem on_idle (hd : Calm B D L n S wr fl w) : Calls Tryz.prog 47 #[.pointer (some ⟨D, 0, none⟩)] w fun e w' => e = .returned (.bool true) ∧ w = w' := by
  obtain ⟨s, ⟨wv, hl⟩, g1, _⟩ := hd
  have c0 := (dk_cells hl.disk).1
  rw [g1] at c0
  exact on_any w D true c0
theorem sectors_idle (hd : Calm B D L n S wr fl w) : Calls Tryz.prog 108 #[.pointer (some ⟨D, 0, none⟩)] w fun e w' => e = .returned (.int .i64 n) ∧ w = w' := by
  obtain ⟨s, ⟨wv, hl⟩, _, _, g3, _⟩ := hd
  have c3 := (dk_cells hl.disk).2.2.2.1
  rw [g3] at c3
  exact sectors_any w D L n s.lc (by have := hl.good.n2; omega) c3
end
end Go.Proofs.YtkmkblhmjeeaeaaGreatDoor
end

/-
  Nodes and their blocks, plainly: what changes make of them. Plain definitions and theorems; no condition.
-/

section
set_option linter.unusedSimpArgs false
set_option linter.unusedVariables false
set_option maxRecDepth 100000
namespace Go.Proofs.YtkmkblhmjeeaeaaGreatDoor
open Go.RowKit

/-- A node that isn't free: its stat, its bytes, and the blocks that have them. -/
structure Hd where
  k : Int
  m : Int
  o : Int
  g : Int
  data : List B8
  bl : List Nat
abbrev Tab := Nat → Option Hd
def tset (f : Tab) (i : Nat) (v : Option Hd) : Tab := fun j => if j = i then v else f j
theorem tset_same (f : Tab) (i : Nat) (v : Option Hd) : tset f i v i = v := by simp [tset]
theorem tset_ne (f : Tab) {i j : Nat} (h : j ≠ i) (v : Option Hd) : tset f i v j = f j := by simp [tset, h]
/-- Is a block some node's? -/
def ownB (f : Tab) (N j : Nat) : Bool := (List.range N).any fun i => match f i with
  | some h => h.bl.contains j
  | none => false
theorem ownB_iff {f : Tab} {N j : Nat} : ownB f N j = true ↔ ∃ i h, i < N ∧ f i = some h ∧ j ∈ h.bl := by
  unfold ownB
  rw [List.any_eq_true]
  constructor
  · rintro ⟨i, hi, h⟩
    cases hf : f i with
    | none => rw [hf] at h; cases h
    | some x =>
      rw [hf] at h
      exact ⟨i, x, List.mem_range.1 hi, hf, by simpa using h⟩
  · rintro ⟨i, h, hi, hf, hj⟩
    exact ⟨i, List.mem_range.2 hi, by rw [hf]; simpa using hj⟩
/-- The blocks that are no node's, rising. -/
def frees (f : Tab) (N B : Nat) : List Nat := (List.range B).filter fun j => !ownB f N j
/-- How many blocks nodes have. -/
def usedN (f : Tab) : Nat → Nat
  | 0 => 0
  | N + 1 => usedN f N + match f N with
    | some h => blks h.data.length
    | none => 0
/-- The blocks that nodes have. -/
def ownL (f : Tab) : Nat → List Nat
  | 0 => []
  | N + 1 => ownL f N ++ match f N with
    | some h => h.bl
    | none => []
structure Wf (f : Tab) (N B : Nat) : Prop where
  out : ∀ i, N ≤ i → f i = none
  ok : ∀ i h, f i = some h → chk h.k h.m h.o h.g = 0 ∧ h.data.length ≤ 512 ∧ h.bl.length = blks h.data.length ∧ h.bl.Nodup ∧ ∀ b ∈ h.bl, b < B
  apart : ∀ i j h h', i ≠ j → f i = some h → f j = some h' → ∀ b ∈ h.bl, b ∉ h'.bl
theorem Wf.empty (N B : Nat) : Wf (fun _ => none) N B := ⟨fun _ _ => rfl, fun _ _ h => (by cases h), fun _ _ _ _ _ h => (by cases h)⟩
theorem ownL_mem {f : Tab} {j : Nat} : ∀ {N : Nat}, j ∈ ownL f N ↔ ∃ i h, i < N ∧ f i = some h ∧ j ∈ h.bl
  | 0 => by simp [ownL]
  | N + 1 => by
    unfold ownL
    rw [List.mem_append, ownL_mem]
    constructor
    · rintro (⟨i, h, hi, hf, hj⟩ | h)
      · exact ⟨i, h, by omega, hf, hj⟩
      · cases hf : f N with
        | none => rw [hf] at h; cases h
        | some x => rw [hf] at h; exact ⟨N, x, by omega, hf, h⟩
    · rintro ⟨i, h, hi, hf, hj⟩
      by_cases he : i = N
      · subst he
        rw [hf]
        exact .inr hj
      · exact .inl ⟨i, h, by omega, hf, hj⟩
theorem ownL_nodup {f : Tab} {N' B : Nat} (hw : Wf f N' B) : ∀ (N : Nat), (ownL f N).Nodup
  | 0 => List.nodup_nil
  | N + 1 => by
    unfold ownL
    rw [List.nodup_append]
    refine ⟨ownL_nodup hw N, ?_, ?_⟩
    · cases hf : f N with
      | none => exact List.nodup_nil
      | some x => exact (hw.ok N x hf).2.2.2.1
    · intro a ha b hb hab
      subst hab
      obtain ⟨i, h, hi, hf, hj⟩ := ownL_mem.1 ha
      cases hfN : f N with
      | none => rw [hfN] at hb; cases hb
      | some x =>
        rw [hfN] at hb
        exact hw.apart i N h x (by omega) hf hfN a hj hb
theorem ownL_length {f : Tab} {N' B : Nat} (hw : Wf f N' B) : ∀ (N : Nat), (ownL f N).length = usedN f N
  | 0 => rfl
  | N + 1 => by
    unfold ownL usedN
    rw [List.length_append, ownL_length hw N]
    cases hf : f N with
    | none => rfl
    | some x => rw [(hw.ok N x hf).2.2.1]
theorem filter_parts {α : Type} (p : α → Bool) : ∀ l : List α, l.length = (l.filter p).length + (l.filter fun x => !p x).length
  | [] => rfl
  | x :: l => by
    have := filter_parts p l
    cases h : p x <;> simp [h] <;> omega
theorem frees_length {f : Tab} {N B : Nat} (hw : Wf f N B) : (frees f N B).length + usedN f N = B := by
  have h1 : ((List.range B).filter fun j => ownB f N j).Perm (ownL f N) := by
    rw [List.perm_ext_iff_of_nodup (List.nodup_range.filter _) (ownL_nodup hw N)]
    intro a
    rw [List.mem_filter, List.mem_range, ownB_iff, ownL_mem]
    constructor
    · exact fun h => h.2
    · rintro ⟨i, h, hi, hf, ha⟩
      exact ⟨(hw.ok i h hf).2.2.2.2 a ha, i, h, hi, hf, ha⟩
  have h2 := h1.length_eq
  rw [ownL_length hw N] at h2
  have h3 := filter_parts (fun j => ownB f N j) (List.range B)
  rw [List.length_range, h2] at h3
  unfold frees
  omega
theorem frees_mem {f : Tab} {N B j : Nat} (h : j ∈ frees f N B) : j < B ∧ ∀ i x, i < N → f i = some x → j ∉ x.bl := by
  unfold frees at h
  rw [List.mem_filter, List.mem_range] at h
  refine ⟨h.1, fun i x hi hf hj => ?_⟩
  have : ownB f N j = true := ownB_iff.2 ⟨i, x, hi, hf, hj⟩
  rw [this] at h
  cases h.2
theorem frees_nodup (f : Tab) (N B : Nat) : (frees f N B).Nodup := List.nodup_range.filter _
/-- A change. -/
structure Ch where
  no : Int
  k : Int
  m : Int
  o : Int
  g : Int
  data : List B8
  drop : Bool
def need (c : Ch) : Nat := if c.drop then 0 else blks c.data.length
def Ch.hd (c : Ch) (bl : List Nat) : Hd := ⟨c.k, c.m, c.o, c.g, c.data, bl⟩
/-- One change: the free blocks and the table behind it. -/
def bstep (s : List Nat × Tab) (c : Ch) : Option (List Nat × Tab) :=
  if c.drop = true then some s else if s.1.length < blks c.data.length then none else some (s.1.drop (blks c.data.length), tset s.2 c.no.toNat (some (c.hd (s.1.take (blks c.data.length)))))
def bfold (s : List Nat × Tab) (l : List Ch) : Option (List Nat × Tab) := l.foldlM bstep s
theorem bfold_nil (s : List Nat × Tab) : bfold s [] = some s := rfl
theorem bfold_cons (s : List Nat × Tab) (c : Ch) (l : List Ch) : bfold s (c :: l) = (bstep s c).bind fun t => bfold t l := rfl
theorem bfold_append (s : List Nat × Tab) : ∀ (a b : List Ch), bfold s (a ++ b) = (bfold s a).bind fun t => bfold t b := by
  intro a b
  unfold bfold
  rw [List.foldlM_append]
  rfl
theorem bfold_snoc {s : List Nat × Tab} {l : List Ch} {i : Nat} {c : Ch} (hc : l[i]? = some c) {t : List Nat × Tab} (ht : bfold s (l.take i) = some t) : bfold s (l.take (i + 1)) = bstep t c := by
  rw [List.take_add_one, hc, bfold_append, ht]
  simp only [Option.toList_some, Option.bind_some, bfold_cons, bfold_nil]
  cases bstep t c <;> rfl
theorem bfold_none {s : List Nat × Tab} {l : List Ch} {i : Nat} {c : Ch} (hc : l[i]? = some c) {t : List Nat × Tab} (ht : bfold s (l.take i) = some t) (hn : bstep t c = none) : bfold s l = none := by
  have h1 : bfold s (l.take (i + 1)) = none := by rw [bfold_snoc hc ht, hn]
  rw [← List.take_append_drop (i + 1) l, bfold_append, h1]
  rfl
/-- The table without the nodes that are changed. -/
def cleared (f : Tab) (l : List Ch) : Tab := fun i => if l.any (fun c => decide (c.no = (i : Int))) = true then none else f i
theorem cleared_some {f : Tab} {l : List Ch} {i : Nat} {h : Hd} (hc : cleared f l i = some h) : f i = some h ∧ ∀ c ∈ l, c.no ≠ (i : Int) := by
  unfold cleared at hc
  split at hc
  · cases hc
  · rename_i hn
    refine ⟨hc, fun c hm he => hn ?_⟩
    rw [List.any_eq_true]
    exact ⟨c, hm, by simpa using he⟩
theorem cleared_snoc {f : Tab} {l : List Ch} {i : Nat} {c : Ch} (hc : l[i]? = some c) (h0 : 0 ≤ c.no) : cleared f (l.take (i + 1)) = tset (cleared f (l.take i)) c.no.toNat none := by
  funext j
  unfold cleared tset
  rw [List.take_add_one, hc, List.any_append]
  simp only [Option.toList_some, List.any_cons, List.any_nil, Bool.or_false]
  by_cases hj : j = c.no.toNat
  · have : c.no = (j : Int) := by omega
    simp [this]
  · have : ¬ c.no = (j : Int) := by omega
    simp [this, hj]
theorem cleared_wf {f : Tab} {N B : Nat} (hw : Wf f N B) (l : List Ch) : Wf (cleared f l) N B := by
  refine ⟨fun i hi => ?_, fun i h hc => hw.ok i h (cleared_some hc).1, fun i j h h' hij hi hj => hw.apart i j h h' hij (cleared_some hi).1 (cleared_some hj).1⟩
  unfold cleared
  split
  · rfl
  · exact hw.out i hi
/-- What holds while changes are made. -/
structure Mid (N B : Nat) (s : List Nat × Tab) : Prop where
  wf : Wf s.2 N B
  nd : s.1.Nodup
  free : ∀ b ∈ s.1, b < B ∧ ∀ i h, s.2 i = some h → b ∉ h.bl
  sum : s.1.length + usedN s.2 N = B
theorem mid_start {f : Tab} {N B : Nat} (hw : Wf f N B) : Mid N B (frees f N B, f) := by
  refine ⟨hw, frees_nodup f N B, fun b hb => ?_, frees_length hw⟩
  obtain ⟨h1, h2⟩ := frees_mem hb
  refine ⟨h1, fun i h hf => ?_⟩
  by_cases hi : i < N
  · exact h2 i h hi hf
  · have := hw.out i (by omega)
    rw [show f i = some h from hf] at this
    cases this
theorem usedN_set {f : Tab} {i : Nat} {h : Hd} (hf : f i = none) : ∀ (N : Nat), usedN (tset f i (some h)) N = usedN f N + if i < N then blks h.data.length else 0
  | 0 => by simp [usedN]
  | N + 1 => by
    unfold usedN
    rw [usedN_set hf N]
    by_cases hi : i = N
    · subst hi
      rw [tset_same, hf]
      simp
    · rw [tset_ne _ (fun e => hi e.symm)]
      by_cases h1 : i < N
      · rw [if_pos h1, if_pos (by omega)]; omega
      · rw [if_neg h1, if_neg (by omega)]; omega
theorem mid_step {N B : Nat} {s t : List Nat × Tab} {c : Ch} (hm : Mid N B s) (hs : bstep s c = some t) (h0 : 0 ≤ c.no) (h1 : c.no < N) (hf : s.2 c.no.toNat = none)
    (hok : c.drop = false → chk c.k c.m c.o c.g = 0 ∧ c.data.length ≤ 512) : Mid N B t := by
  unfold bstep at hs
  split at hs
  · cases hs; exact hm
  · rename_i hd
    have hok := hok (by simpa using hd)
    split at hs
    · cases hs
    · rename_i hl
      cases hs
      have htk : ∀ b ∈ s.1.take (blks c.data.length), b ∈ s.1 := fun b hb => List.mem_of_mem_take hb
      have hnd : (s.1.take (blks c.data.length) ++ s.1.drop (blks c.data.length)).Nodup := by rw [List.take_append_drop]; exact hm.nd
      rw [List.nodup_append] at hnd
      refine ⟨⟨fun i hi => ?_, fun i h hh => ?_, fun i j h h' hij hi hj b hb hb' => ?_⟩, hnd.2.1, fun b hb => ?_, ?_⟩
      · show tset s.2 c.no.toNat _ i = none
        rw [tset_ne _ (by omega)]
        exact hm.wf.out i hi
      · replace hh : tset s.2 c.no.toNat _ i = some h := hh
        by_cases hi : i = c.no.toNat
        · subst hi
          rw [tset_same] at hh
          cases hh
          refine ⟨hok.1, hok.2, ?_, hnd.1, fun b hb => (hm.free b (htk b hb)).1⟩
          show (s.1.take (blks c.data.length)).length = _
          rw [List.length_take]
          show min _ _ = blks c.data.length
          omega
        · rw [tset_ne _ hi] at hh
          exact hm.wf.ok i h hh
      · replace hi : tset s.2 c.no.toNat _ i = some h := hi
        replace hj : tset s.2 c.no.toNat _ j = some h' := hj
        by_cases ei : i = c.no.toNat
        · have ej : j ≠ c.no.toNat := fun e => hij (by omega)
          subst ei
          rw [tset_same] at hi
          rw [tset_ne _ ej] at hj
          cases hi
          exact (hm.free b (htk b hb)).2 j h' hj hb'
        · rw [tset_ne _ ei] at hi
          by_cases ej : j = c.no.toNat
          · subst ej
            rw [tset_same] at hj
            cases hj
            exact (hm.free b (htk b hb')).2 i h hi hb
          · rw [tset_ne _ ej] at hj
            exact hm.wf.apart i j h h' hij hi hj b hb hb'
      · refine ⟨(hm.free b (List.mem_of_mem_drop hb)).1, fun i h hh => ?_⟩
        replace hh : tset s.2 c.no.toNat _ i = some h := hh
        by_cases ei : i = c.no.toNat
        · subst ei
          rw [tset_same] at hh
          cases hh
          exact fun hb' => hnd.2.2 b hb' b hb rfl
        · rw [tset_ne _ ei] at hh
          exact (hm.free b (List.mem_of_mem_drop hb)).2 i h hh
      · show (s.1.drop _).length + usedN (tset s.2 c.no.toNat _) N = B
        rw [usedN_set hf, if_pos (by omega), List.length_drop]
        have := hm.sum
        show _ + (_ + blks c.data.length) = B
        omega
theorem bstep_other {s t : List Nat × Tab} {c : Ch} (hs : bstep s c = some t) {i : Nat} (hi : i ≠ c.no.toNat) : t.2 i = s.2 i := by
  unfold bstep at hs
  split at hs
  · cases hs; rfl
  · split at hs
    · cases hs
    · cases hs
      exact tset_ne _ hi _
/-- Changes that are right, of unlike nodes. -/
structure Good7 (N : Nat) (l : List Ch) : Prop where
  no : ∀ c ∈ l, 0 ≤ c.no ∧ c.no < N
  nd : (l.map Ch.no).Nodup
  ok : ∀ c ∈ l, c.drop = false → chk c.k c.m c.o c.g = 0 ∧ c.data.length ≤ 512
theorem Good7.tail {N : Nat} {c : Ch} {l : List Ch} (h : Good7 N (c :: l)) : Good7 N l :=
  ⟨fun x hx => h.no x (List.mem_cons_of_mem _ hx), (List.nodup_cons.1 h.nd).2, fun x hx => h.ok x (List.mem_cons_of_mem _ hx)⟩
theorem mid_fold {N B : Nat} : ∀ {l : List Ch} {s t : List Nat × Tab}, Mid N B s → Good7 N l → (∀ c ∈ l, s.2 c.no.toNat = none) → bfold s l = some t → Mid N B t
  | [], s, t, hm, _, _, h => by rw [bfold_nil] at h; cases h; exact hm
  | c :: l, s, t, hm, hg, hf, h => by
    rw [bfold_cons] at h
    cases hs : bstep s c with
    | none => rw [hs] at h; cases h
    | some u =>
      rw [hs] at h
      have hc := hg.no c List.mem_cons_self
      refine mid_fold (mid_step hm hs hc.1 hc.2 (hf c List.mem_cons_self) (hg.ok c List.mem_cons_self)) hg.tail (fun d hd => ?_) h
      have hd' := hg.no d (List.mem_cons_of_mem _ hd)
      rw [bstep_other hs]
      · exact hf d (List.mem_cons_of_mem _ hd)
      · intro e
        have : d.no = c.no := by omega
        have h2 := (List.nodup_cons.1 hg.nd).1
        exact h2 (by rw [← this]; exact List.mem_map_of_mem hd)
theorem fold_other {i : Nat} : ∀ {l : List Ch} {s t : List Nat × Tab}, (∀ c ∈ l, c.no.toNat ≠ i) → bfold s l = some t → t.2 i = s.2 i
  | [], s, t, _, h => by rw [bfold_nil] at h; cases h; rfl
  | c :: l, s, t, hn, h => by
    rw [bfold_cons] at h
    cases hs : bstep s c with
    | none => rw [hs] at h; cases h
    | some u =>
      rw [hs] at h
      rw [fold_other (fun d hd => hn d (List.mem_cons_of_mem _ hd)) h, bstep_other hs (fun e => hn c List.mem_cons_self e.symm)]
/-- What a change's node is behind all of them. -/
theorem fold_at {N : Nat} : ∀ {l : List Ch} {s t : List Nat × Tab}, Good7 N l → (∀ c ∈ l, s.2 c.no.toNat = none) → bfold s l = some t → ∀ c ∈ l,
    if c.drop = true then t.2 c.no.toNat = none else ∃ bl, t.2 c.no.toNat = some (c.hd bl) ∧ bl.length = blks c.data.length ∧ ∀ b ∈ bl, b ∈ s.1
  | [], _, _, _, _, _, c, hc => by cases hc
  | c :: l, s, t, hg, hf, h, d, hd => by
    rw [bfold_cons] at h
    cases hs : bstep s c with
    | none => rw [hs] at h; cases h
    | some u =>
      rw [hs] at h
      have hnd := List.nodup_cons.1 hg.nd
      have hoth : ∀ e ∈ l, e.no.toNat ≠ c.no.toNat := fun e he h2 => by
        have h3 := hg.no e (List.mem_cons_of_mem _ he)
        have h4 := hg.no c List.mem_cons_self
        exact hnd.1 (by rw [show c.no = e.no by omega]; exact List.mem_map_of_mem he)
      have hu1 : ∀ b ∈ u.1, b ∈ s.1 := by
        intro b hb
        unfold bstep at hs
        split at hs
        · cases hs; exact hb
        · split at hs
          · cases hs
          · cases hs; exact List.mem_of_mem_drop hb
      rcases List.mem_cons.1 hd with rfl | hd
      · rw [fold_other hoth h]
        unfold bstep at hs
        split at hs
        · cases hs
          rename_i hdr
          rw [if_pos hdr]
          exact hf d List.mem_cons_self
        · rename_i hdr
          split at hs
          · cases hs
          · cases hs
            rw [if_neg hdr]
            refine ⟨_, tset_same _ _ _, ?_, fun b hb => List.mem_of_mem_take hb⟩
            rw [List.length_take]
            omega
      · have := fold_at hg.tail (fun e he => by rw [bstep_other hs (hoth e he)]; exact hf e (List.mem_cons_of_mem _ he)) h d hd
        split
        · rename_i hdr
          rw [if_pos hdr] at this
          exact this
        · rename_i hdr
          rw [if_neg hdr] at this
          obtain ⟨bl, h1, h2, h3⟩ := this
          exact ⟨bl, h1, h2, fun b hb => hu1 b (h3 b hb)⟩
theorem cleared_at {f : Tab} {N : Nat} {l : List Ch} (hg : Good7 N l) : ∀ c ∈ l, cleared f l c.no.toNat = none := by
  intro c hc
  unfold cleared
  rw [if_pos]
  rw [List.any_eq_true]
  exact ⟨c, hc, by have := (hg.no c hc).1; simp; omega⟩
theorem cleared_off {f : Tab} {l : List Ch} {i : Nat} (h : ∀ c ∈ l, c.no ≠ (i : Int)) : cleared f l i = f i := by
  unfold cleared
  rw [if_neg]
  rw [List.any_eq_true]
  rintro ⟨c, hc, he⟩
  exact h c hc (by simpa using he)
/-- What changes make of a table. -/
def tabBehind (f : Tab) (N B : Nat) (l : List Ch) : Option Tab := (bfold (frees (cleared f l) N B, cleared f l) l).map (·.2)
theorem behind_wf {f g : Tab} {N B : Nat} {l : List Ch} (hw : Wf f N B) (hg : Good7 N l) (h : tabBehind f N B l = some g) : Wf g N B := by
  unfold tabBehind at h
  cases hb : bfold (frees (cleared f l) N B, cleared f l) l with
  | none => rw [hb] at h; cases h
  | some t =>
    rw [hb] at h
    cases h
    exact (mid_fold (mid_start (cleared_wf hw l)) hg (cleared_at hg) hb).wf
end Go.Proofs.YtkmkblhmjeeaeaaGreatDoor
end

/-
  The small methods of the log's layout: numbers of sectors. Conditions: the disk has power that never goes; the journal leaves a data sector.
-/

section
set_option maxRecDepth 100000
set_option linter.unusedSimpArgs false
set_option linter.unusedVariables false
namespace Go.Proofs.YtkmkblhmjeeaeaaGreatDoor
open Go.RowKit

/-- A layout as a value. -/
abbrev lay_ (D j : Nat) : Value := .agg #[.pointer (some ⟨D, 0, none⟩), .int .i64 j]
theorem ret_int {k : IntKind} {a b : Int} (h : a = b) : Ending.returned (.int k a) = .returned (.int k b) := by rw [h]

section
variable {B D L n j : Nat} {S : Nat → List B8} {wr fl : Nat} {w : World}
theorem data_any (hd : Calm B D L n S wr fl w) (hj : j + 1 < n) (hn : n ≤ 4096) :
    Calls Tryz.prog 78 #[lay_ D j] w fun e w' => e = .returned (.int .i64 ((n - j - 1 : Nat) : Int)) ∧ Below w.heap.size w w' := by
  have hb := new_below w (.cells #[.pointer (some ⟨D, 0, none⟩), .int .i64 (j : Int)] 119)
  have HD := Lib.hid (hd.below hb)
  have HB := Lib.hid hb
  have h1 : IntKind.i64.wrap ((n : Int) - (j : Int)) = (n : Int) - (j : Int) := IntWalk.i64_in _ (by omega)
  have h2 : IntKind.i64.wrap ((n : Int) - (j : Int) - 1) = (n : Int) - (j : Int) - 1 := IntWalk.i64_in _ (by omega)
  clear hd hb
  go_enter Tryz.func78, Tryz.ntmps78
  go_wp2_with fail
  go_quiet ((go_at_call 108; exact Calls.quiet_of_same ((sectors_idle (HD.out.below (drewN_below _ _))).mono fun e w' ⟨h1, h2⟩ => ⟨h1, h2.symm⟩)))
  go_wp2_with fail
  go_ret
  exact ⟨ret_int (by omega), HB.out.trans ((drewN_below _ _).mono HB.out.size)⟩

theorem has_yes (hd : Calm B D L n S wr fl w) (hj : j + 1 < n) (hn : n ≤ 4096) (no : Int) (h0 : 0 ≤ no) (h1 : no < (n - j - 1 : Nat)) :
    Calls Tryz.prog 65 #[lay_ D j, .int .i64 no] w fun e w' => e = .returned (.bool true) ∧ Below w.heap.size w w' := by
  have hb := new_below w (.cells #[.pointer (some ⟨D, 0, none⟩), .int .i64 (j : Int)] 119)
  have HD := Lib.hid (hd.below hb)
  have HB := Lib.hid hb
  clear hd hb
  go_enter Tryz.func65, Tryz.ntmps65
  go_wp2_with (go_at_call 78; refine (data_any HD.out hj hn).mono ?_; rintro e w' ⟨rfl, hb2⟩; have HB2 := Lib.hid (HB.out.trans (hb2.mono HB.out.size)); clear hb2)
  go_ret
  exact ⟨rfl, HB2.out⟩
theorem has_no (hd : Calm B D L n S wr fl w) (hj : j + 1 < n) (hn : n ≤ 4096) (no : Int) (h : ¬ (0 ≤ no ∧ no < (n - j - 1 : Nat))) :
    Calls Tryz.prog 65 #[lay_ D j, .int .i64 no] w fun e w' => e = .returned (.bool false) ∧ Below w.heap.size w w' := by
  have hb := new_below w (.cells #[.pointer (some ⟨D, 0, none⟩), .int .i64 (j : Int)] 119)
  have HD := Lib.hid (hd.below hb)
  have HB := Lib.hid hb
  clear hd hb
  by_cases h0 : 0 ≤ no
  · have h1 : decide (no < ((n - j - 1 : Nat) : Int)) = false := by simp; omega
    clear h
    go_enter Tryz.func65, Tryz.ntmps65
    go_wp2_with (go_at_call 78; refine (data_any HD.out hj hn).mono ?_; rintro e w' ⟨rfl, hb2⟩; have HB2 := Lib.hid (HB.out.trans (hb2.mono HB.out.size)); clear hb2)
    go_ret
    exact ⟨rfl, HB2.out⟩
  · have hd0 : decide (0 ≤ no) = false := by simpa using h0
    clear h
    go_enter Tryz.func65, Tryz.ntmps65
    go_wp2_with fail
    go_ret
    exact ⟨rfl, HB.out⟩
theorem dataAt_any (no : Nat) (hj : j ≤ 4096) (hn : no ≤ 4096) :
    Calls Tryz.prog 67 #[lay_ D j, .int .i64 no] w fun e w' => e = .returned (.int .i64 ((1 + j + no : Nat) : Int)) ∧ Below w.heap.size w w' := by
  have HB := Lib.hid (new_below w (.cells #[.pointer (some ⟨D, 0, none⟩), .int .i64 (j : Int)] 119))
  go_enter Tryz.func67, Tryz.ntmps67
  go_wp2_with fail
  go_ret
  exact ⟨ret_int (by omega), HB.out⟩
theorem noteAt_any (p : Nat) (hp : p ≤ 4096) :
    Calls Tryz.prog 91 #[lay_ D j, .int .i64 p] w fun e w' => e = .returned (.int .i64 ((1 + 2 * p : Nat) : Int)) ∧ Below w.heap.size w w' := by
  have HB := Lib.hid (new_below w (.cells #[.pointer (some ⟨D, 0, none⟩), .int .i64 (j : Int)] 119))
  go_enter Tryz.func91, Tryz.ntmps91
  go_wp2_with fail
  go_ret
  exact ⟨ret_int (by omega), HB.out⟩
theorem jmost_any (hj : j ≤ 4096) :
    Calls Tryz.prog 87 #[lay_ D j] w fun e w' => e = .returned (.int .i64 ((j / 2 : Nat) : Int)) ∧ Below w.heap.size w w' := by
  have HB := Lib.hid (new_below w (.cells #[.pointer (some ⟨D, 0, none⟩), .int .i64 (j : Int)] 119))
  have h0 : (0 : Int) ≤ (j : Int) := by omega
  go_enter Tryz.func87, Tryz.ntmps87
  go_wp2_with fail
  go_ret
  exact ⟨ret_int (by omega), HB.out⟩
theorem fits_any (hd : Calm B D L n S wr fl w) (hj : j + 1 < n) (hn : n ≤ 4096) (h2 : 2 ≤ j) (h3 : j ≤ 1024) (h4 : j % 2 = 0) :
    Calls Tryz.prog 48 #[lay_ D j] w fun e w' => e = .returned (.bool true) ∧ Below w.heap.size w w' := by
  have hb := new_below w (.cells #[.pointer (some ⟨D, 0, none⟩), .int .i64 (j : Int)] 119)
  have HD := Lib.hid (hd.below hb)
  have HB := Lib.hid hb
  have h0 : (0 : Int) ≤ (j : Int) := by omega
  have h5 : (((j : Int) % 2) == 0) = true := by simp; omega
  have h6 : decide (0 < n - j - 1) = true := by simp; omega
  clear hd hb h4
  go_enter Tryz.func48, Tryz.ntmps48
  go_wp2_with (go_at_call 78; refine (data_any HD.out hj hn).mono ?_; rintro e w' ⟨rfl, hb2⟩; have HB2 := Lib.hid (HB.out.trans (hb2.mono HB.out.size)); clear hb2)
  go_ret
  exact ⟨rfl, HB2.out⟩
end
end Go.Proofs.YtkmkblhmjeeaeaaGreatDoor
end

/-
  The log's bytes, plainly: numbers, notes, heads, transactions' digests. Plain definitions and theorems; no condition.
-/

section
set_option maxRecDepth 100000
set_option linter.unusedSimpArgs false
set_option linter.unusedVariables false
namespace Go.Proofs.YtkmkblhmjeeaeaaGreatDoor
open Go.RowKit

theorem take_snoc_ {α : Type} {ws : List α} {i : Nat} {p : α} (h : ws[i]? = some p) : ws.take (i + 1) = ws.take i ++ [p] := by
  obtain ⟨hi, rfl⟩ := List.getElem?_eq_some_iff.1 h
  exact List.take_succ_eq_append_getElem hi

/-- Byte j of a number of so many bytes, the highest first. -/
def bigAt (size n j : Nat) : B8 := BitVec.ofNat 8 (n / 2 ^ (8 * (size - 1 - j)))
/-- A number as so many bytes, the highest first. -/
def big (size n : Nat) : List B8 := (List.range size).map (bigAt size n)
theorem big_length (size n : Nat) : (big size n).length = size := by simp [big]
theorem big_get {size n j : Nat} (h : j < size) : (big size n)[j]? = some (bigAt size n j) := by simp [big, h]
/-- The same, of whose bytes the last k are laid. -/
def bigPart (size n k : Nat) : List B8 := (List.range size).map fun j => if size - k ≤ j then bigAt size n j else 0
theorem bigPart_zero (size n : Nat) : bigPart size n 0 = List.replicate size 0 := by
  unfold bigPart
  apply List.ext_getElem?
  intro i
  simp only [List.getElem?_map, List.getElem?_replicate]
  by_cases h : i < size
  · rw [List.getElem?_range h, if_pos h]
    simp only [Option.map_some, Nat.sub_zero]
    rw [if_neg (by omega)]
  · rw [List.getElem?_eq_none (by simp; omega), if_neg h]
    rfl
theorem bigPart_all (size n : Nat) : bigPart size n size = big size n := by
  unfold bigPart big
  apply List.map_congr_left
  intro j _
  rw [if_pos (by omega)]
theorem bigPart_set {size n k : Nat} (hk : k < size) : (Vb (bigPart size n k)).set (size - 1 - k) (.int .u8 (nb (bigAt size n (size - 1 - k)))) = Vb (bigPart size n (k + 1)) := by
  unfold Vb bigPart
  apply List.ext_getElem?
  intro i
  rw [List.getElem?_set]
  by_cases h : size - 1 - k = i
  · subst h
    rw [if_pos rfl, if_pos (by simp; omega)]
    simp only [List.getElem?_map]
    rw [List.getElem?_range (by omega)]
    simp only [Option.map_some]
    rw [if_pos (by omega)]
  · rw [if_neg h]
    simp only [List.getElem?_map]
    by_cases hi : i < size
    · rw [List.getElem?_range hi]
      simp only [Option.map_some]
      by_cases h2 : size - k ≤ i
      · rw [if_pos h2, if_pos (by omega)]
      · rw [if_neg h2, if_neg (by omega)]
    · rw [List.getElem?_eq_none (by simp; omega)]
      rfl
theorem bigPart_length (size n k : Nat) : (bigPart size n k).length = size := by simp [bigPart]
theorem fr_big (n : Nat) : fr n = big 4 n := by
  unfold fr big bigAt
  simp [List.range_succ]

/-- Bytes, and bytes 0 behind them, up to a sector. -/
def pad64 (xs : List B8) : List B8 := xs ++ List.replicate (64 - xs.length) 0
theorem pad64_length {xs : List B8} (h : xs.length ≤ 64) : (pad64 xs).length = 64 := by simp [pad64]; omega
/-- The texts that a transaction's digest is of. -/
def txtsOf (num : Nat) (ws : List (Int × List B8)) : List (List B8) := big 8 num :: big 4 ws.length :: ws.flatMap fun p => [big 4 p.1.toNat, p.2]
theorem txtsOf_snoc (num m : Nat) (ws : List (Int × List B8)) (p : Int × List B8) : big 8 num :: big 4 m :: (ws ++ [p]).flatMap (fun p => [big 4 p.1.toNat, p.2]) = (big 8 num :: big 4 m :: ws.flatMap fun p => [big 4 p.1.toNat, p.2]) ++ [big 4 p.1.toNat, p.2] := by
  simp
def digOf (ks : List B32) (num : Nat) (ws : List (Int × List B8)) : List B8 := sha ks (framesOf (txtsOf num ws))
theorem digOf_length (ks : List B32) (num : Nat) (ws : List (Int × List B8)) : (digOf ks num ws).length = 32 := sha_length _ _
def noteB (num place count no : Nat) (d : List B8) : List B8 := pad64 (big 8 num ++ (big 4 place ++ (big 4 count ++ (big 4 no ++ d))))
theorem noteB_length (num place count no : Nat) {d : List B8} (hd : d.length = 32) : (noteB num place count no d).length = 64 := by
  unfold noteB
  rw [pad64_length]
  simp [big_length, hd]
def headB (ks : List B32) (num : Nat) : List B8 := pad64 (big 8 num ++ sha ks (framesOf [big 8 num]))
theorem headB_length (ks : List B32) (num : Nat) : (headB ks num).length = 64 := by
  unfold headB
  rw [pad64_length]
  simp [big_length, sha_length]
end Go.Proofs.YtkmkblhmjeeaeaaGreatDoor
end

/-
  inBytes: a number as so many bytes. Condition: it isn't below 0.
-/

section
set_option maxRecDepth 100000
set_option linter.unusedSimpArgs false
set_option linter.unusedVariables false
namespace Go.Proofs.YtkmkblhmjeeaeaaGreatDoor
open Go.RowKit

theorem big_byte (n k : Nat) : (n : Int) / 2 ^ (8 * k) % 256 = nb (BitVec.ofNat 8 (n / 2 ^ (8 * k))) := by
  rw [nb_of]
  have : ((2 : Int) ^ (8 * k)) = ((2 ^ (8 * k) : Nat) : Int) := by simp
  rw [this, ← Int.natCast_ediv]
  simp

set_option maxHeartbeats 1000000 in
theorem inBytes_any (w : World) (n size : Nat) (hn : n ≤ 9223372036854775807) (hs : size ≤ 8) :
    Calls Tryz.prog 97 #[.int .i64 n, .int .i64 size] w fun e w' => e = .returned (.slice (some ⟨w.heap.size, 0, none⟩) size size) ∧ Blk w' w.heap.size 5 (Vb (big size n)) ∧ Below w.heap.size w w' := by
  have hmk := make_bytes w size (by omega) (by omega)
  have hz : U (List.replicate size 0) = Vb (bigPart size n 0) := by rw [bigPart_zero]; simp [U, Vb, nb]
  have hb := Blk.new w 5 (U (List.replicate size 0))
  have hw := new_below w (.cells (U (List.replicate size 0)).toArray 5)
  rw [Int.toNat_natCast] at hmk
  rw [hz] at hb hw hmk
  have H := Lib.hid (And.intro hb hw)
  clear hz hb hw
  go_enter Tryz.func97, Tryz.ntmps97
  go_wp2_with fail
  clear hmk
  go_loopw [12] (fun iv wx => ∃ k : Nat, k ≤ size ∧ iv = .int .i64 k ∧ Blk wx w.heap.size 5 (Vb (bigPart size n k)) ∧ Below w.heap.size w wx) (fun iv _ => size - (intOf iv).toNat)
  case atStart => exact ⟨0, Nat.zero_le _, rfl, H.out.1, H.out.2⟩
  case round =>
    clear H
    obtain ⟨k, hk, rfl, h1, h2⟩ := hrel
    have HR := Lib.hid (And.intro h1 h2)
    by_cases hlt : k < size
    · have c0 := h1.cell (size - 1 - k)
      have f0 := h1.frozen (size - 1 - k)
      rw [Vb_get, List.getElem?_eq_getElem (by rw [bigPart_length]; omega)] at c0
      clear h1 h2
      go_wp2_with fail
      go_roundw
      case rel =>
        refine ⟨k + 1, by omega, by go_num, ?_, HR.out.2.setCell (p := ⟨w.heap.size, size - 1 - k, none⟩) (Nat.le_refl _) _⟩
        rw [big_byte, show k = size - 1 - (size - 1 - k) by omega]
        have := HR.out.1.set_ (size - 1 - k) (.int .u8 (nb (bigAt size n (size - 1 - k))))
        rw [bigPart_set hlt] at this
        rw [show size - 1 - (size - 1 - k) = k by omega]
        simpa [bigAt, show size - 1 - (size - 1 - k) = k by omega] using this
      case measure => simp [intOf]; omega
    · obtain rfl : k = size := by omega
      clear h1 h2
      go_wp2_with fail
      go_ret
      refine ⟨rfl, ?_, HR.out.2⟩
      rw [← bigPart_all]
      exact HR.out.1
end Go.Proofs.YtkmkblhmjeeaeaaGreatDoor
end

/-
  sector: parts of a sector, and bytes 0 behind them. Conditions: the parts are known, and a sector has room for them.
-/

section
set_option maxRecDepth 100000
set_option linter.unusedSimpArgs false
set_option linter.unusedVariables false
namespace Go.Proofs.YtkmkblhmjeeaeaaGreatDoor
open Go.RowKit

def ub (xs : List B8) : List UInt8 := xs.map UInt8.ofBitVec
theorem ub_length (xs : List B8) : (ub xs).length = xs.length := by simp [ub]
theorem ub_nat (x : B8) : ((UInt8.ofBitVec x).toNat : Int) = nb x := by unfold nb; rfl
theorem Bts.holds {A : Nat → Prop} {w : World} {v : Value} {xs : List B8} (h : Bts A w v xs) : Lib.HoldsBytes w v (ub xs) := by
  rcases h with ⟨rfl, rfl⟩ | ⟨g, o, cap, t, cs, rfl, hA, hn, hb, ht, h1, h2⟩
  · exact ⟨none, 0, rfl, fun _ => rfl, fun a ha => by cases ha⟩
  · refine ⟨_, cap, by rw [ub_length], fun h => (by cases h), fun a ha i x hx => ?_⟩
    cases ha
    have hb' : Bts A w (.slice (some ⟨g, o, none⟩) xs.length cap) xs := .inr ⟨g, o, cap, t, cs, rfl, hA, hn, hb, ht, h1, h2⟩
    have hi : i < xs.length := by have := (List.getElem?_eq_some_iff.1 hx).1; rw [ub_length] at this; exact this
    obtain ⟨g', o', e, _, _, hc⟩ := hb'.cells.2 (by omega)
    cases e
    rw [add_off, hc i (.int .u8 (nb xs[i])) (by rw [Vb_get, List.getElem?_eq_getElem hi]; rfl)]
    unfold ub at hx
    rw [List.getElem?_map, List.getElem?_eq_getElem hi] at hx
    simp only [Option.map_some, Option.some.injEq] at hx
    subst hx
    rw [ub_nat]
theorem join_flat : ∀ (ls : List (List UInt8)), Lib.join ls [] = ls.flatten
  | [] => rfl
  | x :: r => by
    rw [Lib.join_cons, List.flatten_cons]
    simp [Lib.joinTail]
theorem lens_flat (ls : List (List UInt8)) : Lib.lens ls = ls.flatten.length := by simp [Lib.lens, List.length_flatten]
theorem ub_flat (xs : List (List B8)) : (xs.map ub).flatten = ub xs.flatten := by
  unfold ub
  rw [List.map_flatten]
theorem fresh_txt {B : Nat} {w : World} {v : Value} {xs : List B8} (h : Lib.FreshBytes B w v (ub xs)) : ∃ g c, v = .slice (some ⟨g, 0, none⟩) xs.length c ∧ B ≤ g ∧ ∀ p, p ≠ g → Txt w p (some ⟨g, 0, none⟩) xs.length c xs := by
  obtain ⟨g, cap, zs, rfl, hB, h1, h2, h3, h4, h5, h6, h7⟩ := h
  rw [ub_length] at *
  refine ⟨g, cap, rfl, hB, fun p hp => ⟨rfl, h1, h2, fun _ => ⟨g, 0, rfl, fun e => hp e.symm, fun j hj => ?_⟩⟩⟩
  rw [Nat.zero_add, h6 j (by omega)]
  have hz : j < zs.length := by omega
  have e := congrArg (fun l => l[j]?) h5
  simp only [Lib.bytesOf, ub, List.getElem?_map, List.getElem?_take, if_pos hj, List.getElem?_eq_getElem hz, List.getElem?_eq_getElem hj, Option.map_some, Option.some.injEq] at e
  have hr := h4 zs[j] (List.getElem_mem hz)
  have en := congrArg UInt8.toNat e
  rw [List.getD_eq_getElem?_getD, List.getElem?_eq_getElem hz, List.getD_eq_getElem?_getD, List.getElem?_eq_getElem hj]
  simp only [Option.getD_some]
  have e2 : (UInt8.ofBitVec xs[j]).toNat = xs[j].toNat := rfl
  rw [e2, UInt8.toNat_ofNat'] at en
  unfold nb
  rw [← en]
  congr 2
  omega
theorem zeros_Vb (n : Nat) : U (List.replicate n 0) = Vb (List.replicate n 0) := by simp [U, Vb, nb]
theorem over_pad {xs : List B8} (h : xs.length ≤ 64) : over (Vb (List.replicate 64 0)) 0 (Vb (xs.take 64)) = Vb (pad64 xs) := by
  rw [List.take_of_length_le h]
  unfold over pad64
  rw [List.take_zero, List.nil_append, Vb_append, Vb_length, Nat.zero_add]
  congr 1
  simp only [Vb, List.map_replicate, List.drop_replicate]

set_option maxHeartbeats 1000000 in
theorem sector_join (w : World) (A : Nat → Prop) (g k c : Nat) (vs : List Value) (xs : List (List B8)) (h2 : 2 ≤ k) (hk10 : k ≤ 10) (hk : xs.length = k) (hv : vs.length = k) (hb : Blk w g 40 vs) (hp : ∀ (i : Nat) v x, vs[i]? = some v → xs[i]? = some x → Bts A w v x) (hcap : k ≤ c) (hl : xs.flatten.length ≤ 64) :
    Calls Tryz.prog 59 #[.slice (some ⟨g, 0, none⟩) k c] w fun e w' => e = .returned (.slice (some ⟨w.heap.size, 0, none⟩) 64 64) ∧ Blk w' w.heap.size 5 (Vb (pad64 xs.flatten)) ∧ Below w.heap.size w w' := by
  have hmk := make_bytes w 64 (by omega) (by omega)
  have hn := Blk.new w 5 (U (List.replicate 64 0))
  have hbw := new_below w (.cells (U (List.replicate 64 0)).toArray 5)
  rw [show (64 : Int).toNat = 64 from rfl] at hmk
  rw [zeros_Vb] at hn hbw hmk
  have hP : Lib.PartsAt (w.alloc (.cells (Vb (List.replicate 64 0)).toArray 5)) ⟨g, 0, none⟩ vs (xs.map ub) := by
    refine ⟨by rw [List.length_map]; omega, fun i v hi => ?_, fun i v l hi hx => ?_⟩
    · rw [add_off, Nat.zero_add, (hb.below hbw hb.lt).cell, hi]
    · rw [List.getElem?_map] at hx
      cases hxx : xs[i]? with
      | none => rw [hxx] at hx; cases hx
      | some x =>
        rw [hxx] at hx
        simp only [Option.map_some, Option.some.injEq] at hx
        subst hx
        exact ((hp i v x hi hxx).below hbw).holds
  have hj := Tryz.bytes_Join_many g 0 k c vs (xs.map ub) (.slice none 0 0) [] _ (by rw [List.length_map]; exact hk) h2 hP hcap ⟨none, 0, rfl, fun _ => rfl, fun a ha => by cases ha⟩ (by omega) (by rw [lens_flat, ub_flat, ub_length, List.length_nil, Nat.zero_mul]; omega)
  rw [join_flat, ub_flat] at hj
  have HJ := Lib.hid hj
  have H := Lib.hid (And.intro hn hbw)
  clear hn hbw hP hj hb hp
  go_enter Tryz.func59, Tryz.ntmps59
  go_wp2_with fail
  refine HJ.out.mono ?_
  rintro e w2 ⟨v, rfl, h3, h4⟩
  obtain ⟨g2, c2, rfl, hg2, htx⟩ := fresh_txt h3
  have H2 := Lib.hid (And.intro (H.out.1.below h4 H.out.1.lt) (And.intro (H.out.2.trans (h4.mono H.out.2.size)) (htx w.heap.size (by have := H.out.1.lt; omega))))
  clear h3 h4 htx HJ hmk
  obtain ⟨m, hm⟩ : ∃ m, xs.flatten.length = m := ⟨_, rfl⟩
  rw [hm] at H2 hl ⊢
  have HM := Lib.hid hm
  clear hm
  go_wp2_with (refine wpList_copy_blk rfl (.tmp 5) (.tmp 7) 40 40 rfl 5 Tryz.underlying40 info5 w.heap.size 0 64 64 rfl rfl H2.out.1 H2.out.2.2 (by simp [Vb_length]) ?_; intro w3 hb3 o3)
  have H3 := Lib.hid (And.intro hb3 o3)
  clear hb3 o3
  go_ret
  refine ⟨rfl, ?_, H2.out.2.1.trans (H3.out.2.below (B := w.heap.size) H2.out.2.1.size (by simp))⟩
  have := H3.out.1
  rw [over_pad (by rw [HM.out]; exact hl)] at this
  exact this

set_option maxHeartbeats 1000000 in
theorem sector_none (w : World) : Calls Tryz.prog 59 #[.slice none 0 0] w fun e w' => e = .returned (.slice (some ⟨w.heap.size, 0, none⟩) 64 64) ∧ Blk w' w.heap.size 5 (Vb (List.replicate 64 0)) ∧ Below w.heap.size w w' := by
  have hmk := make_bytes w 64 (by omega) (by omega)
  have hn := Blk.new w 5 (U (List.replicate 64 0))
  have hbw := new_below w (.cells (U (List.replicate 64 0)).toArray 5)
  rw [show (64 : Int).toNat = 64 from rfl] at hmk
  rw [zeros_Vb] at hn hbw hmk
  have hj := Tryz.bytes_Join_none none 0 (.slice none 0 0) (w.alloc (.cells (Vb (List.replicate 64 0)).toArray 5))
  have HJ := Lib.hid hj
  have H := Lib.hid (And.intro hn hbw)
  clear hn hbw hj
  go_enter Tryz.func59, Tryz.ntmps59
  go_wp2_with fail
  refine HJ.out.mono ?_
  rintro e w2 ⟨rfl, rfl⟩
  clear HJ hmk
  have hb4 := new_below (w.alloc (.cells (Vb (List.replicate 64 0)).toArray 5)) (.cells #[] 5)
  have H2 := Lib.hid (And.intro (H.out.1.below hb4 H.out.1.lt) (H.out.2.trans (hb4.mono H.out.2.size)))
  have hT : Txt ((w.alloc (.cells (Vb (List.replicate 64 0)).toArray 5)).alloc (.cells #[] 5)) w.heap.size (some ⟨w.heap.size + 1, 0, none⟩) 0 0 [] := ⟨rfl, Nat.le_refl _, Nat.zero_le _, fun h => absurd h (by omega)⟩
  have HT := Lib.hid hT
  clear hT hb4
  go_wp2_with (refine wpList_copy_blk rfl (.tmp 5) (.tmp 7) 40 40 rfl 5 Tryz.underlying40 info5 w.heap.size 0 64 64 rfl rfl H2.out.1 HT.out (by simp [Vb_length]) ?_; intro w3 hb3 o3)
  have H3 := Lib.hid (And.intro hb3 o3)
  clear hb3 o3
  go_ret
  refine ⟨rfl, ?_, H2.out.2.trans (H3.out.2.below (B := w.heap.size) H2.out.2.size (by simp))⟩
  have := H3.out.1
  simpa [over, Vb] using this
end Go.Proofs.YtkmkblhmjeeaeaaGreatDoor
end

/-
  head: the sector that tells the number of the last transaction. Conditions: the constants lie in their variable; the number isn't below 0.
-/

section
set_option maxRecDepth 100000
set_option linter.unusedSimpArgs false
set_option linter.unusedVariables false
namespace Go.Proofs.YtkmkblhmjeeaeaaGreatDoor
open Go.RowKit

/-- A slice of texts: in a block of slices that A allows, each text likewise. -/
def Parts (A : Nat → Prop) (w : World) (v : Value) (xs : List (List B8)) : Prop :=
  ∃ g cap vs, v = .slice (some ⟨g, 0, none⟩) xs.length cap ∧ A g ∧ Blk w g 40 vs ∧ xs.length ≤ vs.length ∧ xs.length ≤ cap ∧ cap ≤ maxLen ∧ ∀ (i : Nat) x, xs[i]? = some x → ∃ v, vs[i]? = some v ∧ Bts A w v x
theorem Parts.txts {A : Nat → Prop} {w : World} {P : Option Addr} {n c : Nat} {xs : List (List B8)} (h : Parts A w (.slice P n c) xs) : TxtsN w w.heap.size P n xs ∧ n ≤ c ∧ c ≤ maxLen := by
  obtain ⟨g, cap, vs, e, hA, hb, h0, h1, h2, hc⟩ := h
  cases e
  refine ⟨⟨rfl, fun _ => ⟨g, 0, rfl, by have := hb.lt; omega, fun i x hx => ?_⟩⟩, h1, h2⟩
  obtain ⟨v, hv, hbt⟩ := hc i x hx
  obtain ⟨Q, k, rfl, h3, h4⟩ := hbt.form
  exact ⟨Q, x.length, k, by rw [hb.cell, Nat.zero_add, hv], hbt.txtNew⟩
theorem slice32 (b : Nat) (W : World) : (Instr.sliceAt 168 (.pointer (some ⟨b, 0, none⟩)) none none none).run Tryz.prog W = .ok (.slice (some ⟨b, 0, none⟩) 32 32) W := by
  have hl : Tryz.prog.arrayLen 168 = 32 := by kernel_rfl
  have he : Tryz.prog.elem 168 = 5 := by kernel_rfl
  have hs : (sizeOf 5).run Tryz.prog W = .ok 1 W := by kernel_rfl
  have h := run_sliceAt_array_all (P := Tryz.prog) W 168 ⟨b, 0, none⟩ (by rw [hl, he]; exact Tryz.underlying168)
  rw [h, he, hs, hl]
  simp only [Result.andThen_ok, slicedAt]
  rw [if_neg (by omega), Addr.add_mid]
theorem zero32 (w : World) : (zeroValue 168).run Tryz.prog w = .ok (.agg (List.replicate 32 (Value.int .u8 0)).toArray) w := by kernel_rfl
theorem Bts.whole {A : Nat → Prop} {w : World} {g t : Nat} {xs : List B8} {n : Nat} (hb : Blk w g t (Vb xs)) (ht : BK t) (hA : A g) (hn : xs.length = n) (h2 : n ≤ 1000000) : Bts A w (.slice (some ⟨g, 0, none⟩) n n) xs :=
  Bts.of_blk hb ht hA (by rw [List.drop_zero, List.take_of_length_le (by rw [Vb_length]; omega)]) hn (Nat.le_refl _) (by unfold maxLen; omega)
theorem below_of {w a b : World} (h1 : Below w.heap.size w a) (h2 : Below a.heap.size a b) : Below w.heap.size w b := h1.trans (h2.mono h1.size)

set_option maxHeartbeats 1000000 in
theorem head_any (ks : List B32) (w : World) (n : Nat) (hK : Roots ks w) (hn : n ≤ 9223372036854775807) :
    Calls Tryz.prog 94 #[.int .i64 n] w fun e w' => ∃ g, e = .returned (.slice (some ⟨g, 0, none⟩) 64 64) ∧ w.heap.size ≤ g ∧ Blk w' g 5 (Vb (headB ks n)) ∧ Below w.heap.size w w' := by
  have hpos := hK.pos
  have HK := Lib.hid hK
  have hz := zero32
  have hs32 := slice32
  clear hK
  go_enter Tryz.func94, Tryz.ntmps94
  go_wp2_with fail
  refine (inBytes_any w n 8 hn (by omega)).mono ?_
  rintro e w1 ⟨rfl, h1, h2⟩
  have hb := new_below w1 (.cells #[.slice (some ⟨w.heap.size, 0, none⟩) 8 8] 40)
  have hblk := Blk.new w1 40 [.slice (some ⟨w.heap.size, 0, none⟩) 8 8]
  have hsz := h2.size
  have hlt := h1.lt
  have hp : Parts (fun _ => True) (w1.alloc (.cells #[.slice (some ⟨w.heap.size, 0, none⟩) 8 8] 40)) (.slice (some ⟨w1.heap.size, 0, none⟩) 1 1) [big 8 n] :=
    ⟨w1.heap.size, 1, _, rfl, trivial, hblk, Nat.le_refl _, Nat.le_refl _, by unfold maxLen; decide, fun i x hx => by
      match i, hx with
      | 0, hx =>
        simp only [List.getElem?_cons_zero, Option.some.injEq] at hx
        subst hx
        exact ⟨_, rfl, (Bts.whole h1 (.inl rfl) trivial (big_length _ _) (by omega)).below hb⟩⟩
  have H1 := Lib.hid (And.intro h1 (And.intro (below_of h2 hb) (And.intro hp.txts.1.txts hb)))
  clear h1 h2 hb hblk hp
  go_wp2_with fail
  refine (framed_any ks (w1.alloc (.cells #[.slice (some ⟨w.heap.size, 0, none⟩) 8 8] 40)) (some ⟨w1.heap.size, 0, none⟩) 1 1 [big 8 n] (HK.out.below H1.out.2.1 hpos) H1.out.2.2.1 (by omega) (by intro x hx; simp only [List.mem_singleton] at hx; subst hx; rw [big_length]; omega)).mono ?_
  rintro e w2 ⟨rfl, h3⟩
  have hs2 : w1.heap.size + 1 ≤ w2.heap.size := by have := h3.size; simpa using this
  have H2 := Lib.hid (And.intro (H1.out.1.below (below_of H1.out.2.2.2 h3) hlt) (below_of H1.out.2.1 h3))
  clear h3
  have hd := sha_length ks (framesOf [big 8 n])
  have HD := Lib.hid (show headB ks n = pad64 (big 8 n ++ sha ks (framesOf [big 8 n])) from rfl)
  generalize sha ks (framesOf [big 8 n]) = d at hd HD
  have HDD := Lib.hid hd
  have i32 : (Tryz.prog.info? 168).map (·.size) = some (Vb d).length := info31.trans (by rw [Vb_length, hd])
  have I32 := Lib.hid i32
  clear hd i32
  go_wp2_with (refine wpList_store_blk rfl 168 (.tmp 4) (.tmp 9) rfl w2.heap.size 0 (Vb d) rfl rfl (Blk.new w2 168 (List.replicate 32 (.int .u8 0))) (by simp [Vb_length, HDD.out]) I32.out (Vb_oneCell _) ?_; intro w3 hA hO)
  rw [over_whole (by simp [Vb_length, HDD.out])] at hA
  have hb3 : Below w2.heap.size w2 w3 := (new_below w2 _).trans (hO.below (B := w2.heap.size) (by simp) (by simp))
  have hb4 := new_below w3 (.cells #[.slice (some ⟨w.heap.size, 0, none⟩) 8 8, .slice (some ⟨w2.heap.size, 0, none⟩) 32 32] 40)
  have hq := Blk.new w3 40 [.slice (some ⟨w.heap.size, 0, none⟩) 8 8, .slice (some ⟨w2.heap.size, 0, none⟩) 32 32]
  have h8 := (H2.out.1.below hb3 (by omega)).below hb4 (by have := hb3.size; omega)
  have h32 := hA.below hb4 hA.lt
  have hbel := below_of (below_of H2.out.2 hb3) hb4
  have H4 := Lib.hid (And.intro hq (And.intro h8 (And.intro h32 hbel)))
  clear hA hO hb3 hb4 hq h8 h32 hbel
  go_wp2_with fail
  refine (sector_join _ (fun _ => True) w3.heap.size 2 2 _ [big 8 n, d] (by omega) (by omega) rfl rfl H4.out.1 (fun i v x hv hx => ?_) (Nat.le_refl _) (by simp [big_length, HDD.out])).mono ?_
  · match i, hv, hx with
    | 0, hv, hx =>
      simp only [List.getElem?_cons_zero, Option.some.injEq] at hv hx
      subst hv hx
      exact Bts.whole H4.out.2.1 (.inl rfl) trivial (big_length _ _) (by omega)
    | 1, hv, hx =>
      simp only [List.getElem?_cons_zero, List.getElem?_cons_succ, Option.some.injEq] at hv hx
      subst hv hx
      exact Bts.whole H4.out.2.2.1 (.inr rfl) trivial HDD.out (by omega)
  rintro e w5 ⟨rfl, h5, h6⟩
  have H5 := Lib.hid (And.intro h5 (And.intro h6.size (below_of H4.out.2.2.2 h6)))
  clear h5 h6
  go_wp2_with fail
  go_ret
  refine ⟨_, rfl, ?_, ?_, H5.out.2.2⟩
  · have := H4.out.2.2.2.size; simpa using this
  · rw [HD.out]
    simpa using H5.out.1
end Go.Proofs.YtkmkblhmjeeaeaaGreatDoor
end
