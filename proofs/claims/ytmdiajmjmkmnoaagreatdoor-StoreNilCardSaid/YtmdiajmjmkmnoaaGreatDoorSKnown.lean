/-
  The chapter's examples. Condition: the signs lie in their variable.
-/
import Derived.Test.YtmdiajmjmkmnoaaGreatDoorSCheck
set_option linter.unusedSimpArgs false
set_option linter.unusedVariables false
set_option maxRecDepth 100000
namespace Go.Proofs.YtmdiajmjmkmnoaaGreatDoor
open Go.RowKit

def rev0 (no : Int) : RevR := ⟨no, List.replicate 32 0, 0⟩
def rs12 : List RevR := [rev0 1, rev0 2]
def rs21 : List RevR := [rev0 2, rev0 1]
theorem rin_two {w : World} {g : Nat} {x y : Int} (h : Blk w g 76 (rvC (rev0 x) ++ rvC (rev0 y))) : RIn w (some ⟨g, 0, none⟩) 2 2 [rev0 x, rev0 y] := by
  refine ⟨rfl, Nat.le_refl _, by omega, fun r hr => ?_, fun _ => ⟨g, 0, rfl, h.lt, fun i r hr j v hv => ?_⟩⟩
  · simp only [List.mem_cons, List.not_mem_nil, or_false] at hr
    rcases hr with rfl | rfl <;> rfl
  · rw [h.cell]
    have hi := (List.getElem?_eq_some_iff.1 hr).1
    have hl : (rvC (rev0 x)).length = 34 := rfl
    match i, hi with
    | 0, _ =>
      simp only [List.getElem?_cons_zero, Option.some.injEq] at hr
      subst hr
      rw [show 0 + 0 * 34 + j = j by omega, List.getElem?_append_left (by have := (List.getElem?_eq_some_iff.1 hv).1; omega)]
      exact hv
    | 1, _ =>
      simp only [List.getElem?_cons_succ, List.getElem?_cons_zero, Option.some.injEq] at hr
      subst hr
      rw [show 0 + 1 * 34 + j = 34 + j by omega, List.getElem?_append_right (by omega), hl, show 34 + j - 34 = j by omega]
      exact hv
theorem chk12 : chkN ⟨#[97]⟩ ⟨#[98]⟩ 3 rs12 = 7 := by decide +kernel
theorem chk21 : chkN ⟨#[97]⟩ ⟨#[98]⟩ 3 rs21 = 1 := by decide +kernel

set_option maxHeartbeats 4000000 in
set_option maxRecDepth 100000 in
theorem sknown_walk (w : World) (hS : Signs w) : Calls Tryz.prog 9 #[] w fun e w' => e = .returned (.bool true) ∧ Below w.heap.size w w' := by
  have HS := Lib.hid hS
  clear hS
  go_enter Tryz.func9, Tryz.ntmps9
  go_wp2_with fail
  have hin := (rin_two (Blk.new w 76 (rvC (rev0 1) ++ rvC (rev0 2)))).below (pnew _ (.cells #[.string ⟨#[97]⟩, .string ⟨#[98]⟩, .int .i64 3, .slice (some ⟨w.heap.size, 0, none⟩) 2 2] 34))
  have hbl := pthen (pnew w (.cells (rvC (rev0 1) ++ rvC (rev0 2)).toArray 76)) (pnew _ (.cells #[.string ⟨#[97]⟩, .string ⟨#[98]⟩, .int .i64 3, .slice (some ⟨w.heap.size, 0, none⟩) 2 2] 34))
  have hpk := Blk.new (w.alloc (.cells (rvC (rev0 1) ++ rvC (rev0 2)).toArray 76)) 34 [.string ⟨#[97]⟩, .string ⟨#[98]⟩, .int .i64 3, .slice (some ⟨w.heap.size, 0, none⟩) 2 2]
  rw [show (w.alloc (.cells (rvC (rev0 1) ++ rvC (rev0 2)).toArray 76)).heap.size = w.heap.size + 1 by simp] at hpk
  refine (check_pk _ (HS.out.to hbl) ⟨#[97]⟩ ⟨#[98]⟩ 3 (some ⟨w.heap.size, 0, none⟩) 2 2 [rev0 1, rev0 2] hin).mono ?_
  rintro e w1 ⟨rfl, h1⟩
  rw [show chkN ⟨#[97]⟩ ⟨#[98]⟩ 3 [rev0 1, rev0 2] = 7 from chk12]
  have k1 := hpk.below h1 (by simp)
  have H1 := Lib.hid (And.intro (pthen hbl h1) k1)
  have c0 := k1.cell 0
  have c1 := k1.cell 1
  have c2 := k1.cell 2
  have c3 := k1.cell 3
  have z3 := k1.frozen 3
  have hlt := k1.lt
  simp only [List.getElem?_cons_succ, List.getElem?_cons_zero] at c0 c1 c2 c3
  clear hin hbl hpk h1 k1
  go_wp2_with fail
  have hb2 : Below w.heap.size w (w1.setCell ⟨w.heap.size + 1, 3, none⟩ (.slice (some ⟨w1.heap.size, 0, none⟩) 2 2)) := H1.out.1.setCell (p := ⟨w.heap.size + 1, 3, none⟩) (by simp) _
  have hs2 : (w1.setCell ⟨w.heap.size + 1, 3, none⟩ (.slice (some ⟨w1.heap.size, 0, none⟩) 2 2)).heap.size = w1.heap.size := by simp
  have hk2 := Blk.new (w1.setCell ⟨w.heap.size + 1, 3, none⟩ (.slice (some ⟨w1.heap.size, 0, none⟩) 2 2)) 76 (rvC (rev0 2) ++ rvC (rev0 1))
  have hn2 := pnew (w1.setCell ⟨w.heap.size + 1, 3, none⟩ (.slice (some ⟨w1.heap.size, 0, none⟩) 2 2)) (.cells (rvC (rev0 2) ++ rvC (rev0 1)).toArray 76)
  rw [hs2] at hk2
  refine (check_pk _ (HS.out.to (pthen hb2 hn2)) ⟨#[97]⟩ ⟨#[98]⟩ 3 (some ⟨w1.heap.size, 0, none⟩) 2 2 [rev0 2, rev0 1] (rin_two hk2)).mono ?_
  rintro e w2 ⟨rfl, h2⟩
  rw [show chkN ⟨#[97]⟩ ⟨#[98]⟩ 3 [rev0 2, rev0 1] = 1 from chk21]
  have H2 := Lib.hid (pthen (pthen hb2 hn2) h2)
  clear hb2 hs2 hk2 hn2 h2 c0 c1 c2 c3 z3 hlt
  go_wp2_with fail
  go_ret
  exact ⟨rfl, H2.out⟩
end Go.Proofs.YtmdiajmjmkmnoaaGreatDoor
