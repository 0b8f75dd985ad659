/-
  BlockKeeps, what its walk needs besides: the rows that come in, the states between the writes, what a crash leaves of a sector. Plain definitions and theorems.
-/
import Derived.Test.YthphaidaknkedaaBLast
import Derived.Test.YthphaidaknkedaaBCopy
namespace Go.Proofs.Ythphaidaknkedaa
open Go.RowKit

/-- A slice of bytes that came in, in a slice of such. -/
structure GoRow where
  A : Option Addr
  n : Nat
  c : Nat
  bs : List Int
/-- The rows lie at their slice's address, below block N. -/
def RowsAt (N : Nat) (w : World) (A : Option Addr) (l : List GoRow) : Prop := ∀ i r, l[i]? = some r → ∃ b o, A = some ⟨b, o, none⟩ ∧ b < N ∧
  w.cell? ⟨b, o + i, none⟩ = some (.slice r.A r.n r.c) ∧ r.bs.length = r.n ∧ r.n ≤ 9223372036854775807 ∧ BytesAt w r.A r.bs ∧ (∀ ad, r.A = some ad → 0 < r.n → ad.block < N)
theorem RowsAt.below {N : Nat} {w w' : World} {A : Option Addr} {l : List GoRow} (h : RowsAt N w A l) (hb : Below N w w') : RowsAt N w' A l := by
  intro i r hr
  obtain ⟨b, o, rfl, hlt, c0, h1, h2, h3, h4⟩ := h i r hr
  exact ⟨b, o, rfl, hlt, (hb.cell (p := ⟨b, o + i, none⟩) hlt).trans c0, h1, h2, h3.below hb (fun ad e hx => h4 ad e (by omega)), h4⟩

theorem HasBytes.below {N : Nat} {w w' : World} {v : Value} {xs : List Int} (h : HasBytes N w v xs) (hb : Below w.heap.size w w') : HasBytes N w' v xs := by
  obtain ⟨g, cap, cs, e, hg, hk, ht⟩ := h
  exact ⟨g, cap, cs, e, hg, hk.below hb hk.lt, ht⟩
theorem HasBytes.upto {N : Nat} {w w' : World} {v : Value} {xs : List Int} (h : HasBytes N w v xs) (hb : Below w.heap.size w w') : HasBytes N w' v xs := h.below hb
theorem own_laid {N : Nat} {w : World} {v : Value} {xs : List Int} (h : w.ownsRow N 5 1 v xs.length (U xs)) (hn : v ≠ .slice none 0 0) : ∃ g c, v = .slice (some ⟨g, 0, none⟩) xs.length c ∧ xs.length ≤ c ∧ HasBytes N w v xs := by
  obtain ⟨g, cap, tl, e, hg, hc, hb⟩ := own_bytes_blk h hn
  exact ⟨g, cap, e, hc, HasBytes.of_own h hn⟩
theorem laid_below (B : Nat) (w : World) (D L : Nat) (s : St) (n : Nat) (hd : Live B D L s w) (hn : s.laid.length = n) :
    Calls Try.prog 26 #[.pointer (some ⟨D, 0, none⟩)] w fun e w' => ∃ g c, e = .returned (.slice (some ⟨g, 0, none⟩) n c) ∧ n ≤ c ∧ HasBytes w.heap.size w' (.slice (some ⟨g, 0, none⟩) n c) s.laid ∧ Below w.heap.size w w' := by
  obtain ⟨wv, hd⟩ := hd
  obtain ⟨c0, c1, c2, c3, c4, c5, c6⟩ := dk_cells hd.disk
  subst hn
  refine (laid_any w D L s.n s.lc s.laid s.tl hd.good.n2 c3 hd.laid hd.good.size).mono ?_
  rintro e w' ⟨v, rfl, h1, h2, h3⟩
  obtain ⟨g, c, rfl, hc, hb⟩ := own_laid h1 h2
  exact ⟨g, c, rfl, hc, hb, h3⟩

theorem IntsAt.first {w : World} {A : Option Addr} {ks : List Int} (h : IntsAt w A ks) (m : Nat) : IntsAt w A (ks.take m) := by
  intro j x hx
  rw [List.getElem?_take] at hx
  split at hx
  · exact h j x hx
  · cases hx

theorem wrap_same {t k : Int} (h : wrap64 t = k) : IntKind.i64.wrap t = k := by
  rw [IntKind.wrap_i64]
  unfold wrap64 at h
  omega

/-- A disk of eight sectors that is written: its power is on, it isn't armed, its counts are small. -/
structure Runs (B D L : Nat) (W : World) (f k : Nat) (s : St) (wr : World) : Prop where
  live : Live B D L s wr
  on : s.on = true
  armed : s.armed = false
  n : s.n = 8
  wr_ : s.wr ≤ k
  fl : s.fl ≤ f
  waits : s.waits.length ≤ k
  below : Below B W wr
theorem Runs.below_ {B D L : Nat} {W wr w' : World} {f k : Nat} {s : St} (h : Runs B D L W f k s wr) (hb : Below wr.heap.size wr w') : Runs B D L W f k s w' :=
  ⟨h.live.below hb, h.on, h.armed, h.n, h.wr_, h.fl, h.waits, h.below.trans (hb.mono (by have := h.live.lt; omega))⟩
theorem Runs.more {B D L : Nat} {W wr : World} {f k f' k' : Nat} {s : St} (h : Runs B D L W f k s wr) (hf : f ≤ f') (hk : k ≤ k') : Runs B D L W f' k' s wr :=
  ⟨h.live, h.on, h.armed, h.n, by have := h.wr_; omega, by have := h.fl; omega, by have := h.waits; omega, h.below⟩
theorem Runs.write_eq {B D L : Nat} {W wr : World} {f k : Nat} {s : St} (h : Runs B D L W f k s wr) {j : Nat} (hj : j < 8) (xs : List Int) :
    s.write j (full xs) = (0, { s with left := nextLeft s.armed s.left, waits := s.waits ++ [((j : Int), full xs)], wr := s.wr + 1 }) := by
  unfold St.write
  rw [if_neg (by rw [h.on]; simp), if_neg (by rw [h.n, full_length]; omega), if_neg (by rw [h.armed]; simp)]
theorem Runs.wrote {B D L : Nat} {W wr w' : World} {f k : Nat} {s : St} (h : Runs B D L W f k s wr) {j : Nat} {xs : List Int} (hl : Live B D L { s with left := nextLeft s.armed s.left, waits := s.waits ++ [((j : Int), full xs)], wr := s.wr + 1 } w') (hb : Below B wr w') :
    Runs B D L W f (k + 1) { s with left := nextLeft s.armed s.left, waits := s.waits ++ [((j : Int), full xs)], wr := s.wr + 1 } w' :=
  ⟨hl, h.on, h.armed, h.n, by have := h.wr_; show s.wr + 1 ≤ ((k + 1 : Nat) : Int); omega, h.fl, by have := h.waits; simp; omega, h.below.trans hb⟩
theorem Runs.flush_eq {B D L : Nat} {W wr : World} {f k : Nat} {s : St} (h : Runs B D L W f k s wr) :
    s.flush = (0, { s with left := nextLeft s.armed s.left, laid := layAll s.laid s.waits, waits := [], fl := s.fl + 1 }) := by
  unfold St.flush
  rw [if_neg (by rw [h.on]; simp), if_neg (by rw [h.armed]; simp)]
theorem Runs.flushed {B D L : Nat} {W wr w' : World} {f k : Nat} {s : St} (h : Runs B D L W f k s wr) (hl : Live B D L { s with left := nextLeft s.armed s.left, laid := layAll s.laid s.waits, waits := [], fl := s.fl + 1 } w') (hb : Below B wr w') :
    Runs B D L W (f + 1) k { s with left := nextLeft s.armed s.left, laid := layAll s.laid s.waits, waits := [], fl := s.fl + 1 } w' :=
  ⟨hl, h.on, h.armed, h.n, h.wr_, by have := h.fl; show s.fl + 1 ≤ ((f + 1 : Nat) : Int); omega, Nat.zero_le _, h.below.trans hb⟩
theorem runs_start {W w1 : World} {D L : Nat} (hl : Live W.heap.size D L (fresh 8) w1) (hb : Below W.heap.size W w1) : Runs W.heap.size D L W 0 0 (fresh 8) w1 :=
  ⟨hl, rfl, rfl, rfl, Int.le_refl _, Int.le_refl _, Nat.le_refl _, hb⟩

/-- The crash of a disk of which nothing waits changes nothing. -/
theorem crash_calm {s : St} (ks : List Int) (hw : s.waits = []) : s.crash ks = (0, { s with on := false, laid := s.laid, waits := [] }) := by
  unfold St.crash
  rw [hw]
  rfl

/-- The second writes: what waits is of the writes that came in. -/
structure Marks (B D L N : Nat) (W : World) (i : Nat) (l : List GoAct) (las : List Int) (vw : Value) (s : St) (wr : World) : Prop where
  run : Runs B D L W 1 (i + 8) s wr
  laid : s.laid = las
  was : HasBytes N wr vw las
  mark : ∀ p ∈ s.waits, ∃ j a, j < i ∧ l[j]? = some a ∧ p = (wrap64 ((IntKind.u64.wrap a.no).tmod 8), full a.bs)
theorem Marks.more {B D L N : Nat} {W : World} {i k : Nat} {l : List GoAct} {las : List Int} {vw : Value} {s : St} {wr : World} (h : Marks B D L N W i l las vw s wr) (hk : i ≤ k) : Marks B D L N W k l las vw s wr :=
  ⟨h.run.more (Nat.le_refl _) (by omega), h.laid, h.was, fun p hp => by obtain ⟨j, a, h1, h2⟩ := h.mark p hp; exact ⟨j, a, by omega, h2⟩⟩
theorem Marks.wrote {B D L N : Nat} {W : World} {i : Nat} {l : List GoAct} {las : List Int} {vw : Value} {s : St} {wr w' : World} (h : Marks B D L N W i l las vw s wr) {k : Nat} {a : GoAct} (ha : l[i]? = some a) (hk : wrap64 ((IntKind.u64.wrap a.no).tmod 8) = (k : Int))
    (hL : L < N) (hl : Live B D L { s with left := nextLeft s.armed s.left, waits := s.waits ++ [((k : Int), full a.bs)], wr := s.wr + 1 } w') (hs : Step B L wr w') : Marks B D L N W (i + 1) l las vw { s with left := nextLeft s.armed s.left, waits := s.waits ++ [((k : Int), full a.bs)], wr := s.wr + 1 } w' := by
  refine ⟨(h.run.wrote hl hs.below).more (Nat.le_refl _) (by omega), h.laid, h.was.step hs hL, fun p hp => ?_⟩
  simp only [List.mem_append, List.mem_singleton] at hp
  rcases hp with hp | rfl
  · obtain ⟨j, b, h1, h2⟩ := h.mark p hp
    exact ⟨j, b, by omega, h2⟩
  · exact ⟨i, a, by omega, ha, by rw [hk]⟩

/-- Behind a crash each sector is as it was laid, or as a waiting write of it has it. -/
theorem sec_crash {s : St} (hg : Good s) (ks : List Int) {j : Nat} (hj : j < s.n) : sec (layAll s.laid (kept ks s.waits)) j = sec s.laid j ∨ ∃ p ∈ s.waits, p.1 = (j : Int) ∧ sec (layAll s.laid (kept ks s.waits)) j = p.2 := by
  have h := sec_layAll hj (kept ks s.waits).reverse s.laid hg.size (fun p hp => hg.sec p (kept_mem (by simpa using hp)))
  rw [List.reverse_reverse] at h
  rw [h]
  cases hf : (kept ks s.waits).reverse.find? (fun p => p.1 == (j : Int)) with
  | none => exact .inl rfl
  | some p => exact .inr ⟨p, kept_mem (by simpa using List.mem_of_find?_eq_some hf), by simpa using List.find?_some hf, rfl⟩

/-- What the innermost loop has found, behind i of the writes. -/
def okB (l : List GoAct) (X : List Int) (j : Nat) (base : Bool) (i : Nat) : Bool := base || (l.take i).any fun a => decide (wrap64 ((IntKind.u64.wrap a.no).tmod 8) = (j : Int)) && (X == full a.bs)
theorem okB_zero (l : List GoAct) (X : List Int) (j : Nat) (base : Bool) : okB l X j base 0 = base := by simp [okB]
theorem okB_succ {l : List GoAct} {X : List Int} {j : Nat} {base : Bool} {i : Nat} {a : GoAct} (ha : l[i]? = some a) : okB l X j base (i + 1) = (okB l X j base i || (decide (wrap64 ((IntKind.u64.wrap a.no).tmod 8) = (j : Int)) && (X == full a.bs))) := by
  unfold okB
  rw [List.take_add_one, ha]
  simp [Bool.or_assoc]
theorem okB_mono {l : List GoAct} {X : List Int} {j : Nat} {base : Bool} {i : Nat} {a : GoAct} (ha : l[i]? = some a) (h : okB l X j base i = true) : okB l X j base (i + 1) = true := by rw [okB_succ ha, h]; rfl
theorem okB_skip {l : List GoAct} {X : List Int} {j : Nat} {base : Bool} {i : Nat} {a : GoAct} (ha : l[i]? = some a) (h : okB l X j base i = false) (hne : wrap64 ((IntKind.u64.wrap a.no).tmod 8) ≠ (j : Int)) : okB l X j base (i + 1) = false := by rw [okB_succ ha, h, decide_eq_false hne]; rfl
theorem okB_hit {l : List GoAct} {X : List Int} {j : Nat} {base : Bool} {i : Nat} {a : GoAct} (ha : l[i]? = some a) (h : okB l X j base i = false) (he : wrap64 ((IntKind.u64.wrap a.no).tmod 8) = (j : Int)) : okB l X j base (i + 1) = (X == full a.bs) := by rw [okB_succ ha, h, decide_eq_true he]; rfl
/-- The claim. -/
theorem okB_all {B D L N : Nat} {W : World} {l : List GoAct} {las : List Int} {vw : Value} {s : St} {wr : World} (h : Marks B D L N W 30 l las vw s wr) (ks : List Int) {j : Nat} (hj : j < 8) {i : Nat} (hi : l.length ≤ i ∨ 30 ≤ i) :
    okB l (sec (layAll las (kept ks s.waits)) j) j (sec (layAll las (kept ks s.waits)) j == sec las j) i = true := by
  have hl := h.laid
  subst hl
  unfold okB
  rcases sec_crash h.run.live.good ks (j := j) (by rw [h.run.n]; exact hj) with he | ⟨p, hp, h1, h2⟩
  · rw [he]; simp
  · obtain ⟨m, a, hm, ha, rfl⟩ := h.mark p hp
    rw [Bool.or_eq_true]
    right
    rw [List.any_eq_true]
    have hml : m < l.length := (List.getElem?_eq_some_iff.1 ha).1
    refine ⟨a, ?_, by simp only [Bool.and_eq_true, decide_eq_true_eq, beq_iff_eq]; exact ⟨h1, h2⟩⟩
    rw [List.mem_iff_getElem?]
    exact ⟨m, by rw [List.getElem?_take_of_lt (by omega)]; exact ha⟩

theorem sec_length {l : List Int} {n j : Nat} (hl : l.length = 64 * n) (hj : j < n) : (sec l j).length = 64 := by
  unfold sec
  rw [List.length_take, List.length_drop]
  omega
/-- A sector of bytes, where it lies. -/
theorem HasBytes.sector {N : Nat} {w : World} {g n c : Nat} {xs : List Int} (h : HasBytes N w (.slice (some ⟨g, 0, none⟩) n c) xs) (j : Nat) : BytesAt w (some ⟨g, 64 * j, none⟩) (sec xs j) := by
  obtain ⟨g', cap, e, hg, hc⟩ := h.cells
  cases e
  intro _
  refine ⟨_, rfl, fun i x hx => ?_⟩
  have hx' : xs[64 * j + i]? = some x := by
    unfold sec at hx
    rw [List.getElem?_take] at hx
    split at hx
    · rwa [List.getElem?_drop] at hx
    · cases hx
  have := hc (64 * j + i) (.int .u8 x) (by rw [U_get, hx']; rfl)
  rw [add_off] at this ⊢
  rwa [Nat.zero_add] at this
theorem HasBytes.cap_ {N : Nat} {w : World} {g n c : Nat} {xs : List Int} (h : HasBytes N w (.slice (some ⟨g, 0, none⟩) n c) xs) : xs.length = n := by
  obtain ⟨g', cap, cs, e, _⟩ := h
  cases e
  rfl

end Go.Proofs.Ythphaidaknkedaa
