/-
  depth, Depth: how deep a tree is, no more told than asked for. Conditions: the value reads as a tree; its list is no longer than a million.
-/
import Derived.Test.YtodpojbgkeecnaaDoorCSmall
set_option linter.unusedSimpArgs false
set_option linter.unusedVariables false
namespace Go.Proofs.YtodpojbgkeecnaaDoor
open Go.RowKit

theorem ret_int {k : IntKind} {a b : Int} (h : a = b) : Ending.returned (.int k a) = .returned (.int k b) := by rw [h]
mutual
/-- A value's depth. -/
def T.dep : T → Nat
  | .mk k _ _ l => if k = 2 then T.depAll l + 1 else 0
def T.depAll : List T → Nat
  | [] => 0
  | t :: r => max t.dep (T.depAll r)
end
theorem T.depAll_snoc : ∀ (l : List T) (t : T), T.depAll (l ++ [t]) = max (T.depAll l) t.dep
  | [], t => by simp [T.depAll]
  | s :: r, t => by
    show T.depAll (s :: (r ++ [t])) = _
    rw [T.depAll, T.depAll, T.depAll_snoc r t]
    omega
theorem T.depAll_take_succ {l : List T} {k : Nat} {t : T} (h : l[k]? = some t) : T.depAll (l.take (k + 1)) = max (T.depAll (l.take k)) t.dep := by
  rw [List.take_add_one, h]
  exact T.depAll_snoc _ t
theorem T.depAll_take_le : ∀ (l : List T) (k : Nat), T.depAll (l.take k) ≤ T.depAll l
  | [], k => by simp
  | s :: r, 0 => by simp [T.depAll]
  | s :: r, k + 1 => by
    rw [List.take_succ_cons, T.depAll, T.depAll]
    have := T.depAll_take_le r k
    omega

set_option maxRecDepth 100000 in
set_option maxHeartbeats 1000000 in
theorem depth_any : ∀ (N : Nat) (t : T), t.high < N → t.ok → ∀ (m : Nat) (x : Int), x = m → m ≤ 100 → ∀ (w : World) (Q : Nat → Prop) (v : Value), In w Q t v → Calls Tryd.prog 26 #[v, .int .i64 x] w fun e w' => e = .returned (.int .i64 (min t.dep m : Nat)) ∧ Below w.heap.size w w'
  | 0, t, h, _, _, _, _, _, _, _, _, _ => absurd h (Nat.not_lt_zero _)
  | N + 1, .mk kd nn b l, hN, hok, m, _, rfl, hm, w, Q, v, hin => by
    have hih : ∀ t ∈ l, ∀ (m : Nat) (x : Int), x = m → m ≤ 100 → ∀ (w : World) (Q : Nat → Prop) (v : Value), In w Q t v → Calls Tryd.prog 26 #[v, .int .i64 x] w fun e w' => e = .returned (.int .i64 (min t.dep m : Nat)) ∧ Below w.heap.size w w' := fun t ht m x hx hm w Q v hv => depth_any N t (by have := T.high_lt (k := kd) (n := nn) (b := b) ht; omega) (by rw [T.ok] at hok; exact T.okAll_mem hok.2.2.2.2 t ht) m x hx hm w Q v hv
    obtain ⟨A, nb, cb, L, nl, cl, xs, rfl, hb, hl⟩ := hin.open_
    have hnl : nl ≤ 1000000 := by rw [T.ok] at hok; have := hl.len; omega
    have HL := Lib.hid hl
    have HH := Lib.hid hih
    clear hb hl hih hok hN hin depth_any
    by_cases k2 : kd = 2
    · subst k2
      rcases Nat.eq_zero_or_pos m with rfl | hm0
      · go_enter Tryd.func26, Tryd.ntmps26
        go_wp2_with fail
        go_ret
        exact ⟨by simp, (Below.refl _ _).alloc (Nat.le_refl _) _⟩
      · have hm1 : ((m : Int) == 0) = false := by simp; omega
        go_enter Tryd.func26, Tryd.ntmps26
        go_wp2_with fail
        go_loopw [5, 18] (fun v i wr => ∃ k : Nat, k ≤ nl ∧ i = .int .i64 k ∧ (∃ y : Int, y = (min (T.depAll (l.take k)) (m - 1) : Nat) ∧ v = .int .i64 y) ∧ Below w.heap.size w wr) (fun _ i _ => nl - (intOf i).toNat)
        case atStart => exact ⟨0, Nat.zero_le _, rfl, ⟨0, by simp [T.depAll], rfl⟩, (Below.refl _ _).alloc (Nat.le_refl _) _⟩
        case round =>
          obtain ⟨k, hk, rfl, ⟨y, hy, rfl⟩, hbel⟩ := hrel
          have hy0 : 0 ≤ y := by omega
          have hy1 : y ≤ 100 := by omega
          have HY := Lib.hid hy
          clear hy
          by_cases hkn : k < nl
          · obtain ⟨g, o, rfl, hQ, hc⟩ := HL.out.cells (by omega)
            have hlk : l[k]? = some (l[k]'(by have := HL.out.len; omega)) := List.getElem?_eq_getElem _
            have hmem : (l[k]'(by have := HL.out.len; omega)) ∈ l := List.getElem_mem _
            generalize (l[k]'(by have := HL.out.len; omega)) = t at hlk hmem
            have htk := T.depAll_take_succ hlk
            have hle := T.depAll_take_le l (k + 1)
            obtain ⟨k', n', b', l'⟩ := t
            have hlw := HL.out.keep (w' := wr) (Q' := Q) fun g hg hlt => ⟨hbel.block g hlt, hg⟩
            obtain ⟨c0, c1, c2, c3, e0, e1, e2, e3, hint⟩ := hlw.get k _ hlk
            obtain ⟨A', nb', cb', L', nl', cl', xs', hv, _, _⟩ := hint.open_
            injection hv with hv
            simp only [Array.mk.injEq, List.cons.injEq, and_true] at hv
            obtain ⟨rfl, rfl, rfl, rfl⟩ := hv
            have HO := Lib.hid (And.intro hbel hint)
            have HT := Lib.hid (And.intro htk hle)
            have HM := Lib.hid hmem
            clear hbel hint hlk hmem hQ hc hlw htk hle
            go_wp2_with fail
            refine (HH.out _ HM.out (m - 1) _ (by omega) (by omega) _ Q _ (HO.out.2.below ((Below.refl _ _).alloc (Nat.le_refl _) _))).mono ?_
            rintro e w2 ⟨rfl, hb2⟩
            rw [World.size_alloc] at hb2
            have hb3 : Below w.heap.size w w2 := HO.out.1.trans (((Below.refl _ wr).alloc (Nat.le_refl _) _).trans (hb2.mono (by omega)) |>.mono HO.out.1.size)
            have H3 := Lib.hid hb3
            clear hb2 hb3
            obtain ⟨z, hz⟩ : ∃ z : Int, z = (min (T.mk k' n' b' l').dep (m - 1) : Nat) := ⟨_, rfl⟩
            rw [← hz]
            have hz0 : 0 ≤ z := by omega
            have hz1 : z ≤ 100 := by omega
            have HZ := Lib.hid hz
            clear hz
            rcases Int.lt_or_le y z with hyz | hyz
            · skip
              go_wp2_with fail
              · have hq : (z == (m : Int) - 1) = true := by assumption
                go_ret
                refine ⟨ret_int ?_, H3.out⟩
                have h1 := HT.out.1
                have h2 := HT.out.2
                have h3 := HZ.out
                have h4 := HY.out
                have h5 : z = (m : Int) - 1 := by simpa using hq
                rw [T.dep, if_pos rfl]
                omega
              · go_roundw
                case rel =>
                  refine ⟨k + 1, by omega, by go_num, ⟨_, ?_, rfl⟩, H3.out⟩
                  have h1 := HT.out.1
                  have h3 := HZ.out
                  have h4 := HY.out
                  omega
                case measure => simp [intOf]; omega
            · have hyz2 : ¬ y < z := by omega
              go_wp2_with fail
              · have hq : (y == (m : Int) - 1) = true := by assumption
                go_ret
                refine ⟨ret_int ?_, H3.out⟩
                have h1 := HT.out.1
                have h2 := HT.out.2
                have h3 := HZ.out
                have h4 := HY.out
                have h5 : y = (m : Int) - 1 := by simpa using hq
                rw [T.dep, if_pos rfl]
                omega
              · go_roundw
                case rel =>
                  refine ⟨k + 1, by omega, by go_num, ⟨_, ?_, rfl⟩, H3.out⟩
                  have h1 := HT.out.1
                  have h3 := HZ.out
                  have h4 := HY.out
                  omega
                case measure => simp [intOf]; omega
          · have hend : l.take k = l := List.take_of_length_le (by have := HL.out.len; omega)
            have HE := Lib.hid hend
            clear hend
            go_wp2_with fail
            go_ret
            refine ⟨ret_int ?_, hbel⟩
            have h4 := HY.out
            rw [HE.out] at h4
            rw [T.dep, if_pos rfl]
            omega
    · go_enter Tryd.func26, Tryd.ntmps26
      go_wp2_with fail
      go_ret
      exact ⟨by rw [T.dep, if_neg k2]; simp, (Below.refl _ _).alloc (Nat.le_refl _) _⟩


theorem Depth_any (t : T) (hok : t.ok) (w : World) (Q : Nat → Prop) (v : Value) (hin : In w Q t v) : Calls Tryd.prog 9 #[v] w fun e w' => e = .returned (.int .i64 (min t.dep 9 : Nat)) ∧ Below w.heap.size w w' := by
  obtain ⟨k, n, b, l⟩ := t
  obtain ⟨A, nb, cb, L, nl, cl, xs, rfl, hb, hl⟩ := hin.open_
  have HIN := Lib.hid hin
  have HOK := Lib.hid hok
  clear hin hb hl hok
  go_enter Tryd.func9, Tryd.ntmps9
  go_wp2_with fail
  refine (depth_any _ _ (Nat.lt_succ_self _) HOK.out 9 _ rfl (by omega) _ Q _ (HIN.out.below ((Below.refl _ _).alloc (Nat.le_refl _) _))).mono ?_
  rintro e w2 ⟨rfl, hb2⟩
  rw [World.size_alloc] at hb2
  go_wp2_with fail
  go_ret
  exact ⟨rfl, ((Below.refl _ w).alloc (Nat.le_refl _) _).trans (hb2.mono (by omega))⟩

end Go.Proofs.YtodpojbgkeecnaaDoor
