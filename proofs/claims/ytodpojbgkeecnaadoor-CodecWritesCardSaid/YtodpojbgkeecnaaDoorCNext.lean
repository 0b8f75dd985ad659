/-
  Next: the value at the beginning of bytes, and what is behind it. Conditions: the bytes lie in memory, and begin with a right value's.
-/
import Derived.Test.YtodpojbgkeecnaaDoorCFirst
import Derived.Test.YtodpojbgkeecnaaDoorCCheck
set_option linter.unusedSimpArgs false
set_option linter.unusedVariables false
namespace Go.Proofs.YtodpojbgkeecnaaDoor
open Go.RowKit

/-- What Next leaves of a right value's bytes, and what is behind them. -/
def NextPost (t : T) (r : List UInt8) (w : World) (e : Ending) (w' : World) : Prop := ∃ v' A c, e = .returned (.tuple #[v', .slice A r.length c, .int .i64 0]) ∧ In w' (fun g => w.heap.size ≤ g) t v' ∧ BIn w' (fun g => w.heap.size ≤ g) A r.length c r ∧ Below w.heap.size w w'

theorem next_end {w w2 w5 w6 : World} {t : T} {v : Value} {A : Option Addr} {c : Nat} {r : List UInt8} {o o' : Obj} (hin : In w2 (fun g => (w.alloc o).heap.size ≤ g) t v) (hb : Below (w.heap.size + 1) (w.alloc o) w2) (hb5 : BIn w5 (fun g => (w2.alloc o').drew.heap.size ≤ g) A r.length c r) (hbel5 : Below (w2.alloc o').drew.heap.size (w2.alloc o').drew w5) (h6 : Only [w.heap.size] w5 w6) :
    NextPost t r w (.returned (.tuple #[v, .slice A r.length c, .int .i64 0])) w6 := by
  simp only [World.size_alloc] at hin
  have hs := hb.size
  simp only [World.size_alloc] at hs
  have h25 : Below w2.heap.size w2 w5 := ((below_new w2 o').drew).trans (hbel5.mono (by simp))
  have h5s := h25.size
  refine ⟨v, A, c, rfl, hin.keep _ _ fun g hg hlt => ⟨(h6.block g (by omega) (by simp; omega)).trans (h25.block g hlt), by omega⟩, hb5.keep fun g hg hlt => ⟨h6.block g hlt (by simp at hg ⊢; omega), by simp at hg; omega⟩, ?_⟩
  exact (((below_new w o).trans (hb.mono (Nat.le_succ _))).trans (h25.mono (by omega))).trans (h6.below (by omega) (by simp))
set_option maxRecDepth 100000 in
set_option maxHeartbeats 1000000 in
theorem next_ok (w : World) (Q : Nat → Prop) (A : Option Addr) (n c : Nat) (t : T) (r : List UInt8) (h : BIn w Q A n c (t.enc ++ r)) (hok : t.ok) (hr : t.anyB = false) (hd : t.dep ≤ 8) (hlen : (t.enc ++ r).length ≤ 131072) :
    Calls Tryd.prog 17 #[.slice A n c] w (NextPost t r w) := by
  have hb := h.below (below_new w (.cells #[.int .i64 0, .int .i64 0, .slice none 0 0, .slice none 0 0] 26))
  have hf := first_ok _ Q A n c t r hb hok hr hd hlen
  have hrl : r.length ≤ 131072 := by rw [List.length_append] at hlen; omega
  clear h hb hok hr hd hlen
  go_enter Tryd.func17, Tryd.ntmps17
  go_wp2_with fail
  refine hf.mono ?_
  clear hf
  rintro e w2 ⟨v2, A2, n2, c2, rfl, hin2, hb2, hbel2⟩
  obtain ⟨k', n', b', l'⟩ := t
  obtain ⟨A3, nb3, cb3, L3, nl3, cl3, xs3, rfl, _, _⟩ := hin2.open_
  have hn2 := hb2.len
  subst hn2
  rw [World.size_alloc] at hbel2
  have hs2 := hbel2.size
  simp only [World.size_alloc] at hs2
  have hdist : w.heap.size ≠ w2.heap.size := by omega
  have hbx := Blk.new w2 26 [.int .i64 k', .int .i64 n', .slice A3 nb3 cb3, .slice L3 nl3 cl3]
  have x0 := hbx.cell 0
  have x1 := hbx.cell 1
  have x2 := hbx.cell 2
  have x3 := hbx.cell 3
  simp only [List.getElem?_cons_succ, List.getElem?_cons_zero] at x0 x1 x2 x3
  have hD := ((Blk.new w 26 [.int .i64 0, .int .i64 0, .slice none 0 0, .slice none 0 0]).below hbel2 (Nat.lt_succ_self _)).alloc (.cells #[.int .i64 k', .int .i64 n', .slice A3 nb3 cb3, .slice L3 nl3 cl3] 26)
  have H2 := Lib.hid (And.intro hin2 (And.intro hb2 (And.intro hbel2 (And.intro hbx hD))))
  clear hin2 hb2 hbel2 hbx hD
  go_wp2_with fail
  go_region_held3 (fun w' => w'.cell? ⟨w2.heap.size, 0, none⟩ = some (.int .i64 k') ∧ w'.cell? ⟨w2.heap.size, 1, none⟩ = some (.int .i64 n') ∧ w'.cell? ⟨w2.heap.size, 2, none⟩ = some (.slice A3 nb3 cb3) ∧ w'.cell? ⟨w2.heap.size, 3, none⟩ = some (.slice L3 nl3 cl3))
    (first | go_keep | (trace_state; fail))
    ((go_at_call 32; refine (clone_any _ _ A2 r.length c2 r ((H2.out.2.1.below (below_new w2 (.cells #[.int .i64 k', .int .i64 n', .slice A3 nb3 cb3, .slice L3 nl3 cl3] 26))).below ((Below.refl _ _).drew)) (by omega)).mono ?_; rintro e w5 ⟨A5, c5, rfl, hb5, hbel5⟩; obtain ⟨_, f0, f1, f2, f3⟩ := box_cells H2.out.2.2.2.1.drew hbel5; obtain ⟨hz5, z0, z1, z2, z3⟩ := box_cells H2.out.2.2.2.2.drew hbel5; have y0 := hz5.frozen 0; have y1 := hz5.frozen 1; have y2 := hz5.frozen 2; have y3 := hz5.frozen 3; clear hz5; have H5 := Lib.hid (And.intro hb5 hbel5); clear hb5 hbel5))
  go_wp2_with fail
  refine bodyPost_ret (v := .tuple #[.agg #[.int .i64 k', .int .i64 n', .slice A3 nb3 cb3, .slice L3 nl3 cl3], .slice A5 r.length c5, .int .i64 0]) (by simp [results, Tryd.results17, go_sem, z0, z1, z2, z3]) rfl ?_
  exact next_end H2.out.1 H2.out.2.2.1 H5.out.1 H5.out.2 (by repeat (first | exact Only.refl _ _ | refine Only.drew ?_ | refine Only.setCell ?_ (.inl (by simp)) _ | refine Only.alloc ?_ _))

end Go.Proofs.YtodpojbgkeecnaaDoor
