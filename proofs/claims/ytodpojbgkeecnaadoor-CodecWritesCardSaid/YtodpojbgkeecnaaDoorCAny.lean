/-
  strangeAnywhere, slices.ContainsFunc, slices.IndexFunc: whether a value or one within it is strange. Conditions: the values read as trees; lists no longer than a million.
-/
import Derived.Test.YtodpojbgkeecnaaDoorCDepth
set_option linter.unusedSimpArgs false
set_option linter.unusedVariables false
namespace Go.Proofs.YtodpojbgkeecnaaDoor
open Go.RowKit

mutual
/-- Is the value, or one within it, strange? -/
def T.anyB : T → Bool
  | .mk k n b l => T.strangeB (.mk k n b l) || T.anyAll l
def T.anyAll : List T → Bool
  | [] => false
  | t :: r => t.anyB || T.anyAll r
end
theorem T.anyAll_snoc : ∀ (l : List T) (t : T), T.anyAll (l ++ [t]) = (T.anyAll l || t.anyB)
  | [], t => by simp [T.anyAll]
  | s :: r, t => by
    show T.anyAll (s :: (r ++ [t])) = _
    rw [T.anyAll, T.anyAll, T.anyAll_snoc r t, Bool.or_assoc]
theorem T.anyAll_take {l : List T} {k : Nat} {t : T} (h : l[k]? = some t) : T.anyAll (l.take (k + 1)) = (T.anyAll (l.take k) || t.anyB) := by
  rw [List.take_add_one, h]
  exact T.anyAll_snoc _ t
theorem T.anyAll_of {l : List T} {t : T} (h : t ∈ l) (ht : t.anyB = true) : T.anyAll l = true := by
  induction l with
  | nil => cases h
  | cons s r ih =>
    rw [T.anyAll]
    rcases List.mem_cons.1 h with rfl | h
    · simp [ht]
    · simp [ih h]

/-- What strangeAnywhere says of a value. -/
def AnySays (t : T) : Prop := ∀ (w : World) (Q : Nat → Prop) (v : Value), In w Q t v → Calls Tryd.prog 25 #[v] w fun e w' => e = .returned (.bool t.anyB) ∧ Below w.heap.size w w'
/-- What IndexFunc leaves. -/
def IndexPost (l : List T) (w : World) (e : Ending) (w' : World) : Prop := ∃ j : Int, e = .returned (.int .i64 j) ∧ decide (0 ≤ j) = T.anyAll l ∧ Below w.heap.size w w'

set_option maxRecDepth 100000 in
theorem index_any (w : World) (Q : Nat → Prop) (L : Option Addr) (n c : Nat) (l : List T) (xs : List Value) (hl : LIn w Q L n c l xs) (hn : n ≤ 1000000) (hs : ∀ t ∈ l, AnySays t) : Calls Tryd.prog 35 #[.slice L n c, .func (.func 25) #[] #[]] w (IndexPost l w) := by
  have HL := Lib.hid hl
  have HH := Lib.hid hs
  clear hl hs
  go_enter Tryd.func35, Tryd.ntmps35
  go_wp2_with fail
  go_loopw [8] (fun i wr => ∃ k : Nat, k ≤ n ∧ i = .int .i64 k ∧ T.anyAll (l.take k) = false ∧ Below w.heap.size w wr) (fun i _ => n - (intOf i).toNat)
  case atStart => exact ⟨0, Nat.zero_le _, rfl, rfl, Below.refl _ _⟩
  case round =>
    obtain ⟨k, hk, rfl, hno, hbel⟩ := hrel
    have HN := Lib.hid hno
    clear hno
    by_cases hkn : k < n
    · obtain ⟨g, o, rfl, hQ, hc⟩ := HL.out.cells (by omega)
      have hlk : l[k]? = some (l[k]'(by have := HL.out.len; omega)) := List.getElem?_eq_getElem _
      have hmem : (l[k]'(by have := HL.out.len; omega)) ∈ l := List.getElem_mem _
      generalize (l[k]'(by have := HL.out.len; omega)) = t at hlk hmem
      have htk := T.anyAll_take hlk
      have hof := T.anyAll_of hmem
      have hlw := HL.out.keep (w' := wr) (Q' := Q) fun g hg hlt => ⟨hbel.block g hlt, hg⟩
      obtain ⟨c0, c1, c2, c3, e0, e1, e2, e3, hint⟩ := hlw.get k _ hlk
      obtain ⟨k', n', b', l'⟩ := t
      obtain ⟨A', nb', cb', L', nl', cl', xs', hv, _, _⟩ := hint.open_
      injection hv with hv
      simp only [Array.mk.injEq, List.cons.injEq, and_true] at hv
      obtain ⟨rfl, rfl, rfl, rfl⟩ := hv
      have HO := Lib.hid (And.intro hbel hint)
      have HT := Lib.hid (And.intro htk hof)
      have HM := Lib.hid hmem
      clear hbel hint hlk hmem hQ hc hlw htk hof
      go_wp2_with fail
      refine (HH.out _ HM.out _ Q _ HO.out.2).mono ?_
      rintro e w2 ⟨rfl, hb2⟩
      have hb3 : Below w.heap.size w w2 := HO.out.1.trans (hb2.mono HO.out.1.size)
      have H3 := Lib.hid hb3
      clear hb2 hb3
      cases hq : (T.mk k' n' b' l').anyB
      · have HT2 := Lib.hid hq
        clear hq
        go_wp2_with fail
        go_roundw
        case rel => exact ⟨k + 1, by omega, by go_num, by rw [HT.out.1, HN.out, HT2.out]; rfl, H3.out⟩
        case measure => simp [intOf]; omega
      · have HT2 := Lib.hid hq
        clear hq
        go_wp2_with fail
        go_ret
        exact ⟨_, rfl, by rw [HT.out.2 HT2.out]; simp, H3.out⟩
    · have hend : l.take k = l := List.take_of_length_le (by have := HL.out.len; omega)
      have HE := Lib.hid hend
      clear hend
      go_wp2_with fail
      go_ret
      exact ⟨_, rfl, by have := HN.out; rw [HE.out] at this; rw [this]; decide, hbel⟩


theorem contains_any (w : World) (Q : Nat → Prop) (L : Option Addr) (n c : Nat) (l : List T) (xs : List Value) (hl : LIn w Q L n c l xs) (hn : n ≤ 1000000) (hs : ∀ t ∈ l, AnySays t) : Calls Tryd.prog 24 #[.slice L n c, .func (.func 25) #[] #[]] w fun e w' => e = .returned (.bool (T.anyAll l)) ∧ Below w.heap.size w w' := by
  have HL := Lib.hid hl
  have HH := Lib.hid hs
  clear hl hs
  go_enter Tryd.func24, Tryd.ntmps24
  go_wp2_with fail
  refine (index_any w Q L n c l xs HL.out hn HH.out).mono ?_
  rintro e w2 ⟨j, rfl, hj, hb⟩
  have HJ := Lib.hid hj
  clear hj
  go_wp2_with fail
  go_ret
  exact ⟨by rw [← HJ.out]; rfl, hb⟩

set_option maxRecDepth 100000 in
theorem any_any : ∀ (N : Nat) (t : T), t.high < N → t.ok → AnySays t
  | 0, t, h, _ => absurd h (Nat.not_lt_zero _)
  | N + 1, .mk kd nn b l, hN, hok => by
    have hih : ∀ t ∈ l, AnySays t := fun t ht => any_any N t (by have := T.high_lt (k := kd) (n := nn) (b := b) ht; omega) (by rw [T.ok] at hok; exact T.okAll_mem hok.2.2.2.2 t ht)
    intro w Q v hin
    obtain ⟨A, nb, cb, L, nl, cl, xs, rfl, hb, hl⟩ := hin.open_
    have hnl : nl ≤ 1000000 := by rw [T.ok] at hok; have := hl.len; omega
    have HL := Lib.hid hl
    have HH := Lib.hid hih
    have HIN := Lib.hid hin
    have hb1 : Below w.heap.size w (w.alloc (.cells #[.int .i64 kd, .int .i64 nn, .slice A nb cb, .slice L nl cl] 26)) := (Below.refl _ _).alloc (Nat.le_refl _) _
    have HB1 := Lib.hid hb1
    clear hb hl hih hok hN hin any_any hb1
    cases hq : T.strangeB (.mk kd nn b l)
    · have HQ := Lib.hid hq
      clear hq
      go_enter Tryd.func25, Tryd.ntmps25
      go_wp2_with fail
      refine (strange_any _ Q _ _ (HIN.out.below HB1.out)).mono ?_
      rintro e w2 ⟨rfl, hb2⟩
      rw [HQ.out]
      rw [World.size_alloc] at hb2
      have e3 : w2.cell? ⟨w.heap.size, 3, none⟩ = some (.slice L nl cl) := ((Blk.new w 26 [.int .i64 kd, .int .i64 nn, .slice A nb cb, .slice L nl cl]).below hb2 (Nat.lt_succ_self _)).cell 3
      have hb3 := HB1.out.trans (hb2.mono (Nat.le_succ _))
      have HB3 := Lib.hid hb3
      clear hb2 hb3
      go_wp2_with fail
      refine (contains_any _ Q L nl cl l xs (HL.out.below HB3.out) hnl HH.out).mono ?_
      rintro e w3 ⟨rfl, hb4⟩
      have HB4 := Lib.hid (HB3.out.trans (hb4.mono HB3.out.size))
      clear hb4
      go_wp2_with fail
      go_ret
      exact ⟨by rw [T.anyB, HQ.out]; rfl, HB4.out⟩
    · have HQ := Lib.hid hq
      clear hq
      go_enter Tryd.func25, Tryd.ntmps25
      go_wp2_with fail
      refine (strange_any _ Q _ _ (HIN.out.below HB1.out)).mono ?_
      rintro e w2 ⟨rfl, hb2⟩
      rw [HQ.out]
      rw [World.size_alloc] at hb2
      have HB3 := Lib.hid (HB1.out.trans (hb2.mono (Nat.le_succ _)))
      clear hb2
      go_wp2_with fail
      go_ret
      exact ⟨by rw [T.anyB, HQ.out]; rfl, HB3.out⟩

end Go.Proofs.YtodpojbgkeecnaaDoor
