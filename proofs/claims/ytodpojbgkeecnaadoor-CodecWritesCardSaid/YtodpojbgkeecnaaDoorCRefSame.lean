/-
  The laws' own Same, of bytes. Conditions: the slices' bytes lie at their addresses.
-/
import Derived.Test.YtodpojbgkeecnaaDoorCAt
import Derived.Test.YtodpojbgkeecnaaDoorCSame
import Derived.Deep.QuietTactic
import Derived.BigQuiet
set_option linter.unusedSimpArgs false
set_option linter.unusedVariables false
namespace Go.Proofs.YtodpojbgkeecnaaDoor
open Go.RowKit

/-- The bytes of a slice lie at its address (nil, empty or not). -/
def BytesAt (w : World) (A : Option Addr) (xs : List Int) : Prop := 0 < xs.length → ∃ ad, A = some ad ∧ ∀ j x, xs[j]? = some x → w.cell? (ad.add j) = some (.int .u8 x)

def SameRel (xs ys : List Int) (w : World) (k : Nat) (wr : World) : Prop := xs.take k = ys.take k ∧ ∃ q, wr = w.drewN q
theorem same_step {xs ys : List Int} {k : Nat} {x y : Int} (h : xs.take k = ys.take k) (hx : xs[k]? = some x) (hy : ys[k]? = some y) (e : x = y) : xs.take (k + 1) = ys.take (k + 1) := by
  rw [List.take_add_one, List.take_add_one, hx, hy, h, e]
theorem same_no {xs ys : List Int} {k : Nat} {x y : Int} (hx : xs[k]? = some x) (hy : ys[k]? = some y) (e : x ≠ y) : (xs == ys) = false := by
  rw [beq_eq_false_iff_ne]
  rintro rfl
  rw [hx] at hy
  injection hy with hy
  exact e hy
theorem same_yes {xs ys : List Int} {n : Nat} (h : xs.take n = ys.take n) (hx : xs.length = n) (hy : ys.length = n) : (xs == ys) = true := by
  rw [List.take_of_length_le (by omega), List.take_of_length_le (by omega)] at h
  simp [h]

set_option maxHeartbeats 1000000 in
theorem same_walk (w : World) (A A' : Option Addr) (n n' c c' : Nat) (xs ys : List Int) (hx : xs.length = n) (hy : ys.length = n') (hbig : n ≤ 9223372036854775807) (h : BytesAt w A xs) (h' : BytesAt w A' ys) :
    Calls Tryd.prog 14 #[.slice A n c, .slice A' n' c'] w fun e w' => e = .returned (.bool (xs == ys)) ∧ ∃ q, w.drewN q = w' := by
  by_cases hne : n = n'
  · subst hne
    have hd : ((n : Int) != n) = false := by simp
    go_enter Tryd.func14, Tryd.ntmps14
    go_wp2_with fail
    have HX := Lib.hid (And.intro hx hy)
    have HA := Lib.hid h
    have HA' := Lib.hid h'
    clear hx hy h h' hd
    go_loopw [5] (fun i wr => ∃ k : Nat, k ≤ n ∧ i = .int .i64 k ∧ SameRel xs ys w k wr) (fun i _ => n - (intOf i).toNat)
    case atStart => exact ⟨0, Nat.zero_le _, rfl, rfl, 0, rfl⟩
    case round =>
      obtain ⟨k, hk, rfl, hpre, q, rfl⟩ := hrel
      have HP := Lib.hid hpre
      clear hpre
      by_cases hlt : k < n
      · obtain ⟨ad, rfl, hc⟩ := HA.out (by have := HX.out.1; omega)
        obtain ⟨ad', rfl, hc'⟩ := HA'.out (by have := HX.out.2; omega)
        obtain ⟨x, hx⟩ : ∃ x, xs[k]? = some x := ⟨_, List.getElem?_eq_getElem (by have := HX.out.1; omega)⟩
        obtain ⟨y, hy⟩ : ∃ y, ys[k]? = some y := ⟨_, List.getElem?_eq_getElem (by have := HX.out.2; omega)⟩
        have e1 := hc k x hx
        have e2 := hc' k y hy
        have HK := Lib.hid (And.intro hx hy)
        clear hc hc' hx hy
        by_cases hxy : x = y
        · have hb : (x != y) = false := by simp [hxy]
          have HE := Lib.hid hxy
          clear hxy
          go_wp2_with fail
          go_quiet (fail)
          go_wp2_with fail
          go_roundw
          case rel => exact ⟨k + 1, by omega, by go_num, same_step HP.out HK.out.1 HK.out.2 HE.out, _, rfl⟩
          case measure => simp [intOf]; omega
        · have hb : (x != y) = true := by rw [bne_iff_ne]; exact hxy
          have HE := Lib.hid hxy
          clear hxy
          go_wp2_with fail
          go_quiet (fail)
          go_wp2_with fail
          go_ret
          exact ⟨by rw [same_no HK.out.1 HK.out.2 HE.out]; rfl, _, (World.drewN_drewN _ _ _).symm⟩
      · obtain rfl : k = n := by omega
        go_wp2_with fail
        go_ret
        exact ⟨by rw [same_yes HP.out HX.out.1 HX.out.2]; rfl, _, rfl⟩
  · have hd : ((n : Int) != n') = true := by rw [bne_iff_ne]; omega
    have hq : (xs == ys) = false := by
      rw [beq_eq_false_iff_ne]
      rintro rfl
      omega
    rw [hq]
    clear hne hq hx hy h h'
    go_enter Tryd.func14, Tryd.ntmps14
    go_wp2_with fail
    go_ret
    exact ⟨rfl, 0, rfl⟩

theorem bin_at {w : World} {Q : Nat → Prop} {A : Option Addr} {n c : Nat} {b : List UInt8} (h : BIn w Q A n c b) : BytesAt w A (b.map fun x => (x.toNat : Int)) := by
  intro hn
  obtain ⟨g, o, hA, _, hc⟩ := h.cells (by have := h.len; simp at hn; omega)
  refine ⟨_, hA, fun j x hx => ?_⟩
  rw [List.getElem?_map] at hx
  cases hb : b[j]? with
  | none => rw [hb] at hx; cases hx
  | some y =>
    rw [hb] at hx
    simp only [Option.map_some, Option.some.injEq] at hx
    subst hx
    rw [add_off]
    exact hc j y hb
theorem map_nat_same (b b' : List UInt8) : (b.map (fun x => (x.toNat : Int)) == b'.map (fun x => (x.toNat : Int))) = decide (b = b') := by
  have h : b.map (fun x => (x.toNat : Int)) = b'.map (fun x => (x.toNat : Int)) ↔ b = b' := by
    refine ⟨fun h => ?_, fun h => by rw [h]⟩
    have := congrArg Lib.bytesOf h
    rwa [bytesOf_nat, bytesOf_nat] at this
  rw [Bool.eq_iff_iff]
  simp only [beq_iff_eq, decide_eq_true_eq]
  exact h
theorem below_drewN {B : Nat} {a w : World} (h : Below B a w) (n : Nat) : Below B a (w.drewN n) := h.trans ⟨rfl, rfl, rfl, Nat.le_refl _, fun _ _ => rfl⟩
theorem ref_same (w : World) (Q Q' : Nat → Prop) (A A' : Option Addr) (n c n' c' : Nat) (b b' : List UInt8) (h : BIn w Q A n c b) (h' : BIn w Q' A' n' c' b') : Calls Tryd.prog 14 #[.slice A n c, .slice A' n' c'] w fun e w' => e = .returned (.bool (decide (b = b'))) ∧ Below w.heap.size w w' := by
  refine (same_walk w A A' n n' c c' _ _ (by rw [List.length_map]; exact h.len) (by rw [List.length_map]; exact h'.len) (by have := h.cap; have := h.capm; unfold maxLen at *; omega) (bin_at h) (bin_at h')).mono ?_
  rintro e w' ⟨rfl, q, rfl⟩
  rw [map_nat_same]
  exact ⟨rfl, below_drewN (Below.refl _ _) q⟩

end Go.Proofs.YtodpojbgkeecnaaDoor
