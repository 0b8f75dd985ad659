/-
  What DigestStreams keeps in memory; a prefix of a text as a slice. Plain theorems; conditions: those in each.
-/
import Derived.Test.YtkblpcegdfhmoaaDoorDTextsLaw
namespace Go.Proofs.YtkblpcegdfhmoaaDoor
open Go.RowKit

theorem slice_to (A : Option Addr) (n c k : Nat) (h : k ≤ c) (W : World) : (Instr.sliceAt 23 (.slice A n c) none (some (.int .i64 k)) none).run Tryd.prog W = .ok (.slice A k c) W := by
  have he : Tryd.prog.elem 23 = 5 := by kernel_rfl
  have hs : (sizeOf 5).run Tryd.prog W = .ok 1 W := by kernel_rfl
  have hu : Tryd.prog.underlying 23 = some (.slice (Tryd.prog.elem 23)) := by rw [he]; exact Tryd.underlying23
  rw [run_sliceAt_slice _ _ _ _ _ _ hu, run_slice_h _ _ _ _ _ hu .i64 k (by omega) (by omega), he, hs]
  simp only [Result.andThen_ok, sliced]
  cases A <;> simp [Addr.add]
theorem TxtN.take {w : World} {p : Nat} {A : Option Addr} {n c : Nat} {bs : List B8} (h : TxtN w p A n c bs) (k : Nat) (hk : k ≤ n) : TxtN w p A k c (bs.take k) := by
  have hl := h.txt.len
  refine ⟨⟨by rw [List.length_take]; omega, by have := h.txt.cap; omega, h.txt.capm, fun h0 => ?_⟩, fun hn => ⟨by have := (h.nil hn).1; omega, (h.nil hn).2⟩⟩
  obtain ⟨g, o, hA, hg, hc⟩ := h.txt.cells (by omega)
  refine ⟨g, o, hA, hg, fun j hj => ?_⟩
  rw [hc j (by omega)]
  simp only [List.getD_eq_getElem?_getD, List.getElem?_take, if_pos hj]
theorem one_txtsP {w : World} {p : Nat} {A : Option Addr} {n c : Nat} {bs : List B8} (h : TxtN w p A n c bs) (hp : p < w.heap.size) : Txts (w.alloc (.cells #[.slice A n c] 23)) p (some ⟨w.heap.size, 0, none⟩) 1 [bs] := by
  have hb := Blk.new w 23 [.slice A n c]
  refine ⟨rfl, fun _ => ⟨w.heap.size, 0, rfl, by omega, fun i x hx => ?_⟩⟩
  match i, hx with
  | 0, hx =>
    simp only [List.getElem?_cons_zero, Option.some.injEq] at hx
    subst hx
    exact ⟨A, n, c, hb.cell 0, h.txt.below ((Below.refl _ _).alloc (Nat.le_refl _) _) (Nat.le_refl _)⟩

/-- What DigestStreams keeps behind its first world: the stream, and the fork, if there is one. -/
structure SS (w1 : World) (m : List B8) (fa : Option Addr) (fm : List B8) (w : World) : Prop where
  str : IsStr Ks w w1.heap.size m
  bel : Below w1.heap.size w1 w
  fork : fa = none ∨ ∃ q, fa = some ⟨q, 0, none⟩ ∧ w1.heap.size < q ∧ IsStr Ks w q fm
theorem SS.lt {w1 w : World} {m fm : List B8} {fa : Option Addr} (h : SS w1 m fa fm w) : w1.heap.size < w.heap.size := h.str.lt
theorem SS.below {w1 w w' : World} {m fm : List B8} {fa : Option Addr} (h : SS w1 m fa fm w) (hb : Below w.heap.size w w') : SS w1 m fa fm w' := by
  refine ⟨h.str.below hb h.lt, h.bel.trans (hb.mono h.bel.size), ?_⟩
  rcases h.fork with h1 | ⟨q, h1, h2, h3⟩
  · exact .inl h1
  · exact .inr ⟨q, h1, h2, h3.below hb h3.lt⟩
theorem SS.drew {w1 w : World} {m fm : List B8} {fa : Option Addr} (h : SS w1 m fa fm w) : SS w1 m fa fm w.drew := h.below ⟨rfl, rfl, rfl, Nat.le_refl _, fun _ _ => rfl⟩
theorem SS.write {w1 w w' : World} {m m' fm : List B8} {fa : Option Addr} (h : SS w1 m fa fm w) (ho : Only [w1.heap.size] w w') (hs : IsStr Ks w' w1.heap.size m') : SS w1 m' fa fm w' := by
  refine ⟨hs, h.bel.trans (ho.below (B := w1.heap.size) (by have := h.lt; omega) (by simp)), ?_⟩
  rcases h.fork with h1 | ⟨q, h1, h2, h3⟩
  · exact .inl h1
  · exact .inr ⟨q, h1, h2, h3.only ho (by simp; omega)⟩
theorem SS.forked {w1 w w' : World} {m fm fm' : List B8} {fa : Option Addr} {q : Nat} (h : SS w1 m fa fm w) (hq : w1.heap.size < q) (ho : Only [q] w w') (hs : IsStr Ks w' q fm') : SS w1 m (some ⟨q, 0, none⟩) fm' w' :=
  ⟨h.str.only ho (by simp; omega), h.bel.trans (ho.below (B := w1.heap.size) (by have := h.lt; omega) (by simp; omega)), .inr ⟨q, rfl, hq, hs⟩⟩
theorem SS.ptr {w1 w : World} {m fm : List B8} {fa : Option Addr} (h : SS w1 m fa fm w) : PtrStr Ks w (some ⟨w1.heap.size, 0, none⟩) m := .inr ⟨_, rfl, h.str⟩
theorem take_flat_prefix (X : List (List B8)) (k : Nat) : X.flatten.take (X.take k).flatten.length = (X.take k).flatten := by
  have h : X.flatten = (X.take k).flatten ++ (X.drop k).flatten := by rw [← List.flatten_append, List.take_append_drop]
  rw [h, List.take_left]
theorem one_byte : [Value.int .u8 1] = Vb [1#8] := by simp [Vb, nb]
theorem byte_txt (w : World) (p : Nat) (hp : w.heap.size ≠ p) : TxtN (w.alloc (.cells #[.int .u8 1] 5)) p (some ⟨w.heap.size, 0, none⟩) 1 1 [1#8] := by
  have hb := Blk.new w 5 [Value.int .u8 1]
  refine ⟨⟨rfl, Nat.le_refl _, by unfold maxLen; omega, fun _ => ⟨w.heap.size, 0, rfl, hp, fun j hj => ?_⟩⟩, fun h => by cases h⟩
  obtain rfl : j = 0 := by omega
  exact (hb.cell 0).trans (by simp [nb])
theorem byte_txts (w : World) (q : Nat) (hq : q < w.heap.size) : Txts ((w.alloc (.cells #[.int .u8 1] 5)).alloc (.cells #[.slice (some ⟨w.heap.size, 0, none⟩) 1 1] 23)) q (some ⟨w.heap.size + 1, 0, none⟩) 1 [[1#8]] := by
  have := one_txtsP (byte_txt w q (by omega)) (by simp; omega)
  rw [World.size_alloc] at this
  exact this
theorem two_txts {w : World} {p : Nat} {A A' : Option Addr} {n c n' c' : Nat} {bs bs' : List B8} (h : TxtN w p A n c bs) (h' : TxtN w p A' n' c' bs') (hp : p < w.heap.size) : Txts (w.alloc (.cells #[.slice A n c, .slice A' n' c'] 23)) p (some ⟨w.heap.size, 0, none⟩) 2 [bs, bs'] := by
  have hb := Blk.new w 23 [.slice A n c, .slice A' n' c']
  refine ⟨rfl, fun _ => ⟨w.heap.size, 0, rfl, by omega, fun i x hx => ?_⟩⟩
  match i, hx with
  | 0, hx =>
    simp only [List.getElem?_cons_zero, Option.some.injEq] at hx
    subst hx
    exact ⟨A, n, c, hb.cell 0, h.txt.below ((Below.refl _ _).alloc (Nat.le_refl _) _) (Nat.le_refl _)⟩
  | 1, hx =>
    simp only [List.getElem?_cons_succ, List.getElem?_cons_zero, Option.some.injEq] at hx
    subst hx
    exact ⟨A', n', c', hb.cell 1, h'.txt.below ((Below.refl _ _).alloc (Nat.le_refl _) _) (Nat.le_refl _)⟩
theorem SS.forkStr {w1 w : World} {m fm : List B8} {q : Nat} (h : SS w1 m (some ⟨q, 0, none⟩) fm w) : w1.heap.size < q ∧ IsStr Ks w q fm := by
  rcases h.fork with h1 | ⟨q', h1, h2, h3⟩
  · cases h1
  · simp only [Option.some.injEq, Addr.mk.injEq, and_true] at h1
    subst h1
    exact ⟨h2, h3⟩

end Go.Proofs.YtkblpcegdfhmoaaDoor
