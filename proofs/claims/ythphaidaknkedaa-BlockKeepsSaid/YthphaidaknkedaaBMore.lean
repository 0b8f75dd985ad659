/-
  New, Laid, Power, Arm and a sector that is read: what each does to a disk. Conditions: the disk is held.
-/
import Derived.Test.YthphaidaknkedaaBSmall
import Derived.Test.YthphaidaknkedaaBPower
import Derived.Test.YthphaidaknkedaaBLay
import Derived.Test.YthphaidaknkedaaShelf
namespace Go.Proofs.Ythphaidaknkedaa
open Go.RowKit

theorem laid_nil (w : World) : Calls Try.prog 26 #[.pointer none] w fun e w' => e = .returned (.slice none 0 0) ∧ w = w' := by
  go_enter Try.func26, Try.ntmps26
  go_wp2
  go_ret
  exact ⟨rfl, rfl⟩

/-- A slice of the call's own, of these bytes. -/
def OwnBytes (B : Nat) (xs : List Int) (w : World) (e : Ending) (w' : World) : Prop := ∃ v', e = .returned v' ∧ w'.ownsRow w.heap.size 5 1 v' xs.length (U xs) ∧ v' ≠ .slice none 0 0 ∧ Below B w w'

theorem clone_bytes (w : World) (a : Addr) (n c : Nat) (xs : List Int) (hx : xs.length = n) (hbig : n ≤ 140737488355328) (hc : ∀ j u, (U xs)[j]? = some u → w.cell? (a.add j) = some u) :
    Calls Try.prog 37 #[.slice (some a) n c] w (OwnBytes w.heap.size xs w) := by
  subst hx
  refine (Try.bytes_Clone_at a xs.length c xs w rfl hbig ?_).mono fun e w' h => ?_
  · intro i hi
    refine hc i _ ?_
    rw [U_get, List.getElem?_eq_getElem hi]
    simp [hi]
  · exact h

theorem laid_any (w : World) (D L n lc : Nat) (laid : List Int) (tl : List Value) (hn : n ≤ 4096) (h3 : w.cell? ⟨D, 3, none⟩ = some (.slice (some ⟨L, 0, none⟩) (64 * n) lc)) (hL : Blk w L 5 (U laid ++ tl)) (hl : laid.length = 64 * n) :
    Calls Try.prog 26 #[.pointer (some ⟨D, 0, none⟩)] w (OwnBytes w.heap.size laid w) := by
  have hc : ∀ j u, (U laid)[j]? = some u → w.cell? ((⟨L, 0, none⟩ : Addr).add j) = some u := by
    intro j u hu
    have hadd : (⟨L, 0, none⟩ : Addr).add j = ⟨L, j, none⟩ := by unfold Addr.add; split <;> simp_all
    rw [hadd, hL.cell j, List.getElem?_append_left (List.getElem?_eq_some_iff.1 hu).1, hu]
  have Hc := Lib.hid hc
  have Hl := Lib.hid hl
  clear hc hl hL
  go_enter Try.func26, Try.ntmps26
  go_wp2_with fail
  refine (clone_bytes w ⟨L, 0, none⟩ (64 * n) lc laid Hl.out (by omega) Hc.out).mono ?_
  rintro e w' ⟨v', rfl, h1, h2, h3⟩
  have H := Lib.hid (And.intro h1 (And.intro h2 h3))
  clear h1 h2 h3
  go_wp2_with fail
  go_ret
  exact ⟨v', rfl, H.out⟩

theorem power_nil (w : World) : Calls Try.prog 21 #[.pointer none] w fun e w' => e = .returned (.tuple #[]) ∧ w = w' := by
  go_enter Try.func21, Try.ntmps21
  go_wp2
  refine bodyPost_ret (results_none rfl _ _ _) rfl ?_
  exact ⟨rfl, rfl⟩

theorem arm_nil (w : World) (n : Int) : Calls Try.prog 22 #[.pointer none, .int .i64 n] w fun e w' => e = .returned (.tuple #[]) ∧ w = w' := by
  go_enter Try.func22, Try.ntmps22
  go_wp2
  go_end0
  exact ⟨rfl, rfl⟩

theorem flush_nil (w : World) : Calls Try.prog 17 #[.pointer none] w fun e w' => e = .returned (.int .i64 9) ∧ w = w' := by
  go_enter Try.func17, Try.ntmps17
  go_wp2_with (go_at_call 28; refine (on_nil _).mono ?_; rintro e w' ⟨rfl, rfl⟩)
  go_ret
  exact ⟨rfl, rfl⟩

theorem crash_nil (w : World) (A : Option Addr) (n c : Nat) : Calls Try.prog 19 #[.pointer none, .slice A n c] w fun e w' => e = .returned (.int .i64 0) ∧ w = w' := by
  go_enter Try.func19, Try.ntmps19
  go_wp2
  go_ret
  exact ⟨rfl, rfl⟩

theorem copy_nil (w : World) : Calls Try.prog 23 #[.pointer none] w fun e w' => e = .returned (.pointer none) ∧ w = w' := by
  go_enter Try.func23, Try.ntmps23
  go_wp2
  go_ret
  exact ⟨rfl, rfl⟩

end Go.Proofs.Ythphaidaknkedaa
