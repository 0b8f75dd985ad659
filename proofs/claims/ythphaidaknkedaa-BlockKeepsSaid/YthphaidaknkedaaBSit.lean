/-
  What the laws over lists of calls keep in memory: the calls that came in, the last bytes of each sector, the disk. Plain definitions and theorems.
-/
import Derived.Test.YthphaidaknkedaaBSees
namespace Go.Proofs.Ythphaidaknkedaa
open Go.RowKit

/-- A call that came in: its kind, its number, its bytes and places as slices. -/
structure GoAct where
  kind : Int
  no : Int
  bA : Option Addr
  bn : Nat
  bc : Nat
  bs : List Int
  kA : Option Addr
  kn : Nat
  kc : Nat
  ks : List Int

/-- The calls lie at their slice's address, below block N. -/
def ActsAt (N : Nat) (w : World) (A : Option Addr) (l : List GoAct) : Prop := ∀ i a, l[i]? = some a → ∃ b o, A = some ⟨b, o, none⟩ ∧ b < N ∧
  w.cell? ⟨b, o + i * 4, none⟩ = some (.int .i64 a.kind) ∧ w.cell? ⟨b, o + i * 4 + 1, none⟩ = some (.int .i64 a.no) ∧
  w.cell? ⟨b, o + i * 4 + 2, none⟩ = some (.slice a.bA a.bn a.bc) ∧ w.cell? ⟨b, o + i * 4 + 3, none⟩ = some (.slice a.kA a.kn a.kc) ∧
  a.bs.length = a.bn ∧ a.bn ≤ 9223372036854775807 ∧ BytesAt w a.bA a.bs ∧ a.ks.length = a.kn ∧ IntsAt w a.kA a.ks ∧ a.bn ≤ a.bc ∧ a.kn ≤ a.kc ∧ a.kc ≤ 9223372036854775807 ∧ a.bc ≤ 9223372036854775807 ∧
  -9223372036854775808 ≤ a.no ∧ a.no ≤ 9223372036854775807 ∧ -9223372036854775808 ≤ a.kind ∧ a.kind ≤ 9223372036854775807 ∧ (∀ ad, a.bA = some ad → 0 < a.bn → ad.block < N) ∧ (∀ ad, a.kA = some ad → 0 < a.kn → ad.block < N)

theorem BytesAt.below {N : Nat} {w w' : World} {A : Option Addr} {xs : List Int} (h : BytesAt w A xs) (hb : Below N w w') (hA : ∀ ad, A = some ad → 0 < xs.length → ad.block < N) : BytesAt w' A xs := by
  intro hx
  obtain ⟨ad, rfl, hc⟩ := h hx
  refine ⟨ad, rfl, fun j x hj => ?_⟩
  have hlt := hA ad rfl hx
  rw [hb.cell (by rw [block_of_add']; exact hlt)]
  exact hc j x hj
theorem IntsAt.below {N : Nat} {w w' : World} {A : Option Addr} {xs : List Int} (h : IntsAt w A xs) (hb : Below N w w') (hA : ∀ ad, A = some ad → 0 < xs.length → ad.block < N) : IntsAt w' A xs := by
  intro j x hj
  obtain ⟨g, o, rfl, hc⟩ := h j x hj
  have hlt := hA _ rfl (by have := (List.getElem?_eq_some_iff.1 hj).1; omega)
  exact ⟨g, o, rfl, (hb.cell (p := ⟨g, o + j, none⟩) hlt).trans hc⟩
theorem ActsAt.below {N : Nat} {w w' : World} {A : Option Addr} {l : List GoAct} (h : ActsAt N w A l) (hb : Below N w w') : ActsAt N w' A l := by
  intro i a ha
  obtain ⟨b, o, rfl, hlt, c0, c1, c2, c3, h1, h2, h3, h4, h5, h6, h7, h8, h9, h10, h11, h12, h13, h14, h15⟩ := h i a ha
  exact ⟨b, o, rfl, hlt, (hb.cell (p := ⟨b, o + i * 4, none⟩) hlt).trans c0, (hb.cell (p := ⟨b, o + i * 4 + 1, none⟩) hlt).trans c1, (hb.cell (p := ⟨b, o + i * 4 + 2, none⟩) hlt).trans c2, (hb.cell (p := ⟨b, o + i * 4 + 3, none⟩) hlt).trans c3,
    h1, h2, h3.below hb (fun ad e hx => h14 ad e (by omega)), h4, h5.below hb (fun ad e hx => h15 ad e (by omega)), h6, h7, h8, h9, h10, h11, h12, h13, h14, h15⟩

/-- The last bytes of each of n sectors: the cells of block G, of slices of bytes. -/
def LastsAt (M G n : Nat) (lasts : Nat → List Int) (w : World) : Prop := ∃ cs : List Value, Blk w G 31 cs ∧ cs.length = n ∧ ∀ j, j < n → ∃ v, cs[j]? = some v ∧ (v = .slice none 0 0 ∧ lasts j = [] ∨ HasBytes M w v (lasts j))
theorem LastsAt.step {M G n B L : Nat} {lasts : Nat → List Int} {w w' : World} (h : LastsAt M G n lasts w) (hs : Step B L w w') (hL : L < M) (hG : G ≠ L) : LastsAt M G n lasts w' := by
  obtain ⟨cs, hb, hl, hc⟩ := h
  refine ⟨cs, hs.keep G _ cs (by decide) (by decide) hG hb, hl, fun j hj => ?_⟩
  obtain ⟨v, hv, h | h⟩ := hc j hj
  · exact ⟨v, hv, .inl h⟩
  · exact ⟨v, hv, .inr (h.step hs hL)⟩
theorem LastsAt.form {M G n : Nat} {lasts : Nat → List Int} {w : World} (h : LastsAt M G n lasts w) {j : Nat} (hj : j < n) :
    ∃ A c, w.cell? ⟨G, j, none⟩ = some (.slice A (lasts j).length c) ∧ BytesAt w A (lasts j) := by
  obtain ⟨cs, hb, hl, hc⟩ := h
  obtain ⟨v, hv, ⟨rfl, h⟩ | h⟩ := hc j hj
  · exact ⟨none, 0, by rw [hb.cell, hv, h]; rfl, fun hx => by rw [h] at hx; simp at hx⟩
  · obtain ⟨g, cap, rfl, _, hcell⟩ := h.cells
    exact ⟨some ⟨g, 0, none⟩, cap, by rw [hb.cell, hv], fun _ => ⟨_, rfl, fun i x hx => hcell i _ (by rw [U_get, hx]; rfl)⟩⟩
theorem LastsAt.set_ {M G n : Nat} {lasts : Nat → List Int} {w : World} (h : LastsAt M G n lasts w) {j : Nat} (hj : j < n) {v : Value} {xs : List Int} (hv : HasBytes M w v xs) :
    LastsAt M G n (fun i => if i = j then xs else lasts i) (w.setCell ⟨G, j, none⟩ v) := by
  obtain ⟨cs, hb, hl, hc⟩ := h
  have keep : ∀ u ys, HasBytes M w u ys → HasBytes M (w.setCell ⟨G, j, none⟩ v) u ys := by
    intro u ys hu
    obtain ⟨g, cap, ds, rfl, hg, hd, ht⟩ := hu
    exact ⟨g, cap, ds, rfl, hg, hd.far (p := ⟨G, j, none⟩) (hd.ne_ hb (by decide)) _, ht⟩
  refine ⟨cs.set j v, hb.set_ j v, by simp [hl], fun i hi => ?_⟩
  by_cases hij : i = j
  · subst hij
    exact ⟨v, by rw [List.getElem?_set_self (by omega)], .inr (by simp only [if_true]; exact keep _ _ hv)⟩
  · obtain ⟨u, hu, h⟩ := hc i hi
    simp only [if_neg hij]
    refine ⟨u, by rw [List.getElem?_set_ne (fun e => hij e.symm)]; exact hu, ?_⟩
    rcases h with h | h
    · exact .inl h
    · exact .inr (keep _ _ h)

theorem ownsRow_step {B L M : Nat} {e : TypeId} {size n : Nat} {v : Value} {xs : List Value} {w w' : World} (h : w.ownsRow M e size v n xs) (hs : Step B L w w') (h1 : e ≠ 69) (h2 : e ≠ 73) (hL : L < M) : w'.ownsRow M e size v n xs := by
  refine ⟨h.1, ?_⟩
  rcases h.2 with hn | ⟨g, cap, cur, rfl, hbg, hgg, rest⟩
  · exact .inl hn
  · have := hs.keep g e cur.toList h1 h2 (by omega) (by simpa [Blk] using hgg)
    exact .inr ⟨g, cap, cur, rfl, hbg, by simpa [Blk] using this, rest⟩
/-- A store into a block of the law's own of another kind, and a new block: steps of no disk. -/
theorem Step.of_only {B L : Nat} {S : List Nat} {w w' : World} (h : Only S w w') (hB : B ≤ w.heap.size) (hS : ∀ k, k ∈ S → B ≤ k ∧ ∀ t cs, Blk w k t cs → t = 69 ∨ t = 73 ∨ k = L) : Step B L w w' :=
  ⟨h.below hB fun k hk => (hS k hk).1, fun g t cs h1 h2 h3 hb => hb.only h fun hg => by
    rcases (hS g hg).2 t cs hb with e | e | e
    · exact h1 e
    · exact h2 e
    · exact h3 e⟩
theorem Live.only {B D L : Nat} {s : St} {S : List Nat} {w w' : World} (h : Live B D L s w) (ho : Only S w w') (hS : ∀ k, k ∈ S → ∀ t cs, Blk w k t cs → t ≠ 69 ∧ t ≠ 73 ∧ k ≠ L) : Live B D L s w' := by
  obtain ⟨wv, h⟩ := h
  refine ⟨wv, h.disk.only ho (fun hd => (hS D hd _ _ h.disk).1 rfl), h.laid.only ho (fun hl => (hS L hl _ _ h.laid).2.2 rfl), ?_, h.baseD, h.baseL, h.good⟩
  rcases h.own.2 with hn | ⟨g, cap, cur, hv, hbg, hgg, rest⟩
  · exact ⟨h.own.1, .inl hn⟩
  · have hb : Blk w g 73 cur.toList := by simpa [Blk] using hgg
    have hb' := hb.only ho (fun hs => (hS g hs _ _ hb).2.1 rfl)
    exact ⟨h.own.1, .inr ⟨g, cap, cur, hv, hbg, by simpa [Blk] using hb', rest⟩⟩

end Go.Proofs.Ythphaidaknkedaa
