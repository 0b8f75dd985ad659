/-
  A sector's laid bytes as a slice; the laying of a waiting write. Conditions: the disk's block and its laid bytes are known; the sector is there.
-/
import Derived.Test.YthphaidaknkedaaProg
import Derived.Test.YthphaidaknkedaaBState
import Derived.StillTailTactics
import Derived.Laws.CopyOwn
import Derived.Lib.Hide
namespace Go.Proofs.Ythphaidaknkedaa
open Go.RowKit

theorem ret_slice {A : Option Addr} {n n' c c' : Nat} (h : n = n') (h2 : c = c') : Ending.returned (.slice A n c) = .returned (.slice A n' c') := by rw [h, h2]

theorem sector_any (w : World) (D L n lc k : Nat) (hlc : 64 * n ≤ lc) (hn : n ≤ 4096) (hk : k < n) (h3 : w.cell? ⟨D, 3, none⟩ = some (.slice (some ⟨L, 0, none⟩) (64 * n) lc)) :
    Calls Try.prog 36 #[.pointer (some ⟨D, 0, none⟩), .int .i64 k] w fun e w' => e = .returned (.slice (some ⟨L, k * 64, none⟩) 64 (lc - k * 64)) ∧ w = w' := by
  go_enter Try.func36, Try.ntmps36
  go_wp2
  go_ret
  exact ⟨ret_slice (by omega) rfl, rfl⟩

set_option maxRecDepth 100000 in
theorem lay_any (w : World) (D L G o n lc k : Nat) (laid bs : List Int) (tl : List Value) (hlc : 64 * n ≤ lc) (hn : n ≤ 4096) (hk : k < n) (h3 : w.cell? ⟨D, 3, none⟩ = some (.slice (some ⟨L, 0, none⟩) (64 * n) lc))
    (hL : Blk w L 5 (U laid ++ tl)) (hl : laid.length = 64 * n) (hb : bs.length = 64) (hno : w.cell? ⟨G, o, none⟩ = some (.int .i64 k)) (hbs : ∀ j x, bs[j]? = some x → w.cell? ⟨G, o + 1 + j, none⟩ = some (.int .u8 x)) :
    Calls Try.prog 38 #[.pointer (some ⟨D, 0, none⟩), .pointer (some ⟨G, o, none⟩)] w fun e w' => e = .returned (.tuple #[]) ∧ Blk w' L 5 (U (putS laid k bs) ++ tl) ∧ Only [L] w w' := by
  have Hl := Lib.hid hl
  have Hb := Lib.hid hb
  have HL := Lib.hid hL
  have Hbs := Lib.hid hbs
  clear hl hb hL hbs
  go_enter Try.func38, Try.ntmps38
  go_wp2_with fail
  refine wp_region_still_tail 10 (by kernel_rfl) (by kernel_rfl) ?_

  simp only [List.take_succ_cons, List.take_zero, List.drop_succ_cons, List.drop_zero]
  still_step
  still_step
  still_step
  still_step
  still_step

  still_call ((sector_any w.drew D L n lc k hlc hn hk h3).mono fun _ _ ⟨he, hw⟩ => ⟨he, hw.symm⟩)
  repeat still_step
  try refine wpStill_nil ?_
  change wpList _ _ _ _ _ w.drew
  refine wpList_copy_own rfl _ _ 31 31 rfl 5 (by kernel_rfl) (by kernel_rfl) L (k * 64) 64 _ ⟨G, o + 1, none⟩ 64 64 rfl rfl _ 5 HL.out.drew (U bs) ?c1 ?c2 ?c3 (U_oneCell bs) ?_
  case c1 => rw [U_length, Hb.out]; rfl
  case c2 =>
    intro j v hv
    rw [U_get] at hv
    cases hx : bs[j]? with
    | none => rw [hx] at hv; simp at hv
    | some x =>
      rw [hx] at hv
      simp at hv
      subst hv
      have := Hbs.out j x hx
      simpa [Addr.add_lit] using this
  case c3 => simp only [U_length, List.size_toArray, List.length_append, Hb.out, Hl.out]; omega
  have E : (((U laid ++ tl).toArray).toList.take (k * 64) ++ (U bs ++ ((U laid ++ tl).toArray).toList.drop (k * 64 + (U bs).length))) = U (putS laid k bs) ++ tl := by
    have hul : (U laid).length = 64 * n := by rw [U_length, Hl.out]
    show (U laid ++ tl).take (k * 64) ++ (U bs ++ (U laid ++ tl).drop (k * 64 + (U bs).length)) = _
    rw [List.take_append_of_le_length (by omega), List.drop_append_of_le_length (by rw [U_length, Hb.out]; omega)]
    simp only [U_length, Hb.out, putS, U_append, ← U_take, ← U_drop, Nat.mul_comm k 64, List.append_assoc]
  rw [E]
  generalize hw' : w.drew.setRow L (U (putS laid k bs) ++ tl).toArray = w'
  have hB : Blk w' L 5 (U (putS laid k bs) ++ tl) := by rw [← hw']; exact setRow_heap _ _ _ _ _ _ HL.out.drew
  have hO : Only [L] w w' := by rw [← hw']; exact ((Only.refl _ w).drew).setRow (.inl (by simp)) _
  have H := Lib.hid (And.intro hB hO)
  clear hB hO hw' E
  go_wp2
  go_end0
  exact ⟨rfl, H.out.1, H.out.2⟩

end Go.Proofs.Ythphaidaknkedaa
