/-
  What the laws share: how values and arguments lie, what Encode tells of a right value. Conditions: those in each.
-/
import Derived.Test.YtodpojbgkeecnaaDoorCRounds
import Derived.Test.YtodpojbgkeecnaaDoorCInj
import Derived.Test.YtodpojbgkeecnaaDoorCKnown
import Derived.Test.YtodpojbgkeecnaaDoorCRefSame
set_option linter.unusedSimpArgs false
set_option linter.unusedVariables false
namespace Go.Proofs.YtodpojbgkeecnaaDoor
open Go.RowKit

/-- A value, as it lies. -/
theorem In.form {w : World} {Q : Nat → Prop} {t : T} {v : Value} (h : In w Q t v) : ∃ k n A nb cb L nl cl, v = .agg #[.int .i64 k, .int .i64 n, .slice A nb cb, .slice L nl cl] := by
  obtain ⟨k, n, b, l⟩ := t
  obtain ⟨A, nb, cb, L, nl, cl, xs, rfl, _⟩ := h.open_
  exact ⟨k, n, A, nb, cb, L, nl, cl, rfl⟩
theorem PIn.take {w : World} {A : Option Addr} {n c : Nat} {ps : List Int} (h : PIn w A n c ps) (m : Nat) (hm : m ≤ n) : PIn w A m c (ps.take m) := by
  refine ⟨by rw [List.length_take]; have := h.len; omega, by have := h.cap; omega, fun x hx => h.bound x (List.mem_of_mem_take hx), fun hn => ?_⟩
  obtain ⟨g, o, hA, hg, hc⟩ := h.cells (by omega)
  refine ⟨g, o, hA, hg, fun j x hx => ?_⟩
  rw [List.getElem?_take] at hx
  split at hx
  · exact hc j x hx
  · cases hx
theorem KIn.below {w w' : World} {A : Option Addr} {n c : Nat} {ts : List Tok} (h : KIn w A n c ts) (hb : Below w.heap.size w w') : KIn w' A n c ts := by
  refine ⟨h.len, h.cap, h.big, h.fits, fun hn => ?_⟩
  obtain ⟨g, o, hA, hg, hc⟩ := h.cells hn
  refine ⟨g, o, hA, Nat.lt_of_lt_of_le hg hb.size, fun i t ht => ?_⟩
  obtain ⟨Ab, nb, cb, h0, h1, h2, h3⟩ := hc i t ht
  exact ⟨Ab, nb, cb, (hb.cell (p := ⟨g, _, none⟩) hg).trans h0, (hb.cell (p := ⟨g, _, none⟩) hg).trans h1, (hb.cell (p := ⟨g, _, none⟩) hg).trans h2, h3.below hb⟩

theorem Tab.at_ {B : Nat} {w wr : World} (h : B ≤ w.heap.size ∧ Tab B w) (hb : Below w.heap.size w wr) : B ≤ wr.heap.size ∧ Tab B wr := ⟨Nat.le_trans h.1 hb.size, h.2.later h.1 hb⟩
/-- A right value that isn't too deep can be written. -/
theorem check_zero {t : T} (h : t.anyB = false) (hd : t.dep ≤ 8) : t.check = 0 := by
  obtain ⟨k, n, b, l⟩ := t
  rw [T.anyB, Bool.or_eq_false_iff] at h
  rw [T.check, if_neg (by rw [h.1]; decide), if_neg (by omega), if_neg (by rw [h.2]; decide)]
/-- What Encode tells of a right value. -/
theorem encode_right (t : T) (hok : t.ok) (hlen : t.enc.length ≤ 131072) (ha : t.anyB = false) (hd : t.dep ≤ 8) (B : Nat) (w : World) (Q : Nat → Prop) (v : Value) (hB : B ≤ w.heap.size) (htab : Tab B w) (hin : In w Q t v) :
    Calls Tryd.prog 7 #[v] w fun e w' => ∃ A c, e = .returned (.tuple #[.slice A t.enc.length c, .int .i64 0]) ∧ BIn w' (fun g => w.heap.size ≤ g) A t.enc.length c t.enc ∧ Below w.heap.size w w' := by
  refine (encode_any t hok hlen B w Q v hB htab hin).mono ?_
  rintro e w' ⟨hb, ⟨h, _⟩ | ⟨_, v', rfl, ho⟩⟩
  · exact absurd (check_zero ha hd) h
  · obtain ⟨A, c, rfl, hbin⟩ := own_bin ho
    exact ⟨A, c, rfl, hbin, hb⟩

end Go.Proofs.YtodpojbgkeecnaaDoor
