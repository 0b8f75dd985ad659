/-
  Same, slices.EqualFunc: whether two values are the same. Conditions: both read as trees; bytes and lists no longer than a million.
-/
import Derived.Test.YtodpojbgkeecnaaDoorCDepth
import Derived.Test.YtodpojbgkeecnaaDoorShelf
set_option linter.unusedSimpArgs false
set_option linter.unusedVariables false
namespace Go.Proofs.YtodpojbgkeecnaaDoor
open Go.RowKit

mutual
/-- Are two values the same? -/
def T.sameB : T → T → Bool
  | .mk k n b l, .mk k' n' b' l' => decide (k = k') && decide (n = n') && decide (b = b') && T.sameAll l l'
def T.sameAll : List T → List T → Bool
  | [], [] => true
  | t :: r, t' :: r' => t.sameB t' && T.sameAll r r'
  | _, _ => false
end
mutual
theorem T.sameB_iff : ∀ (a b : T), a.sameB b = true ↔ a = b
  | .mk k n b l, .mk k' n' b' l' => by
    rw [T.sameB]
    simp only [Bool.and_eq_true, decide_eq_true_eq, T.mk.injEq]
    rw [T.sameAll_iff l l']
    simp only [and_assoc]
theorem T.sameAll_iff : ∀ (l m : List T), T.sameAll l m = true ↔ l = m
  | [], [] => by simp [T.sameAll]
  | [], _ :: _ => by simp [T.sameAll]
  | _ :: _, [] => by simp [T.sameAll]
  | t :: r, t' :: r' => by
    rw [T.sameAll, Bool.and_eq_true, T.sameB_iff t t', T.sameAll_iff r r']
    simp
end
theorem T.sameB_dec (a b : T) [Decidable (a = b)] : a.sameB b = decide (a = b) := by
  rw [Bool.eq_iff_iff, T.sameB_iff, decide_eq_true_eq]

theorem bytes_in {w : World} {Q : Nat → Prop} {A : Option Addr} {n c : Nat} {b : List UInt8} (h : BIn w Q A n c b) : Lib.BytesIn w A n (b.map fun x => (x.toNat : Int)) := by
  rcases Nat.eq_zero_or_pos n with rfl | hn
  · exact Lib.BytesIn.nil w A _
  · obtain ⟨g, o, rfl, _, hc⟩ := h.cells hn
    refine Lib.BytesIn.of_cells fun i hi => ?_
    have hib : i < b.length := by have := h.len; omega
    rw [add_off, hc i b[i] (List.getElem?_eq_getElem hib)]
    simp [List.getD_eq_getElem?_getD, hib]
theorem bytesOf_nat (b : List UInt8) : Lib.bytesOf (b.map fun x => (x.toNat : Int)) = b := by
  unfold Lib.bytesOf
  rw [List.map_map]
  conv => rhs; rw [← List.map_id b]
  apply List.map_congr_left
  intro x _
  simp
theorem equal_any (w : World) (Q Q' : Nat → Prop) (A A' : Option Addr) (n c n' c' : Nat) (b b' : List UInt8) (h : BIn w Q A n c b) (h' : BIn w Q' A' n' c' b') : Calls Tryd.prog 27 #[.slice A n c, .slice A' n' c'] w fun e w' => e = .returned (.bool (decide (b = b'))) ∧ w = w' := by
  refine (Tryd.bytes_Equal_all A A' n c n' c' _ _ w (by rw [List.length_map]; exact h.len) (by rw [List.length_map]; exact h'.len) (bytes_in h) (bytes_in h')).mono ?_
  rintro e w' ⟨rfl, rfl⟩
  rw [bytesOf_nat, bytesOf_nat]
  refine ⟨?_, rfl⟩
  congr 2
  rw [Bool.eq_iff_iff]
  simp

/-- What Same says of a value. -/
def SameSays (t : T) : Prop := ∀ (t' : T) (w : World) (Q Q' : Nat → Prop) (v v' : Value), t'.ok → In w Q t v → In w Q' t' v' → Calls Tryd.prog 10 #[v, v'] w fun e w' => e = .returned (.bool (t.sameB t')) ∧ Below w.heap.size w w'

theorem T.sameAll_length : ∀ {l m : List T}, l.length ≠ m.length → T.sameAll l m = false
  | [], [], h => absurd rfl h
  | [], _ :: _, _ => rfl
  | _ :: _, [], _ => rfl
  | _ :: r, _ :: r', h => by
    rw [T.sameAll, T.sameAll_length (l := r) (m := r') (by simpa using h), Bool.and_false]
theorem T.sameAll_at : ∀ {l m : List T} {i : Nat} {a b : T}, l[i]? = some a → m[i]? = some b → a.sameB b = false → T.sameAll l m = false
  | [], _, i, a, b, h, _, _ => by simp at h
  | _ :: _, [], i, a, b, _, h, _ => by simp at h
  | s :: r, s' :: r', 0, a, b, h, h', hs => by
    simp only [List.getElem?_cons_zero, Option.some.injEq] at h h'
    subst h h'
    rw [T.sameAll, hs, Bool.false_and]
  | s :: r, s' :: r', i + 1, a, b, h, h', hs => by
    rw [T.sameAll, T.sameAll_at (l := r) (m := r') (by simpa using h) (by simpa using h') hs, Bool.and_false]
theorem T.sameAll_all : ∀ {l m : List T}, l.length = m.length → (∀ (i : Nat) (a b : T), l[i]? = some a → m[i]? = some b → a.sameB b = true) → T.sameAll l m = true
  | [], [], _, _ => rfl
  | [], _ :: _, h, _ => by simp at h
  | _ :: _, [], h, _ => by simp at h
  | s :: r, s' :: r', h, hs => by
    rw [T.sameAll, hs 0 s s' rfl rfl, T.sameAll_all (by simpa using h) (fun i a b ha hb => hs (i + 1) a b (by simpa using ha) (by simpa using hb)), Bool.true_and]

set_option maxRecDepth 100000 in
set_option maxHeartbeats 1000000 in
theorem equalFunc_any (w : World) (Q Q' : Nat → Prop) (L L' : Option Addr) (n c n' c' : Nat) (l l' : List T) (xs xs' : List Value) (hl : LIn w Q L n c l xs) (hl' : LIn w Q' L' n' c' l' xs') (hn : n ≤ 1000000) (hn' : n' ≤ 1000000) (hs : ∀ t ∈ l, SameSays t) (hok : T.okAll l') :
    Calls Tryd.prog 28 #[.slice L n c, .slice L' n' c', .func (.func 10) #[] #[]] w fun e w' => e = .returned (.bool (T.sameAll l l')) ∧ Below w.heap.size w w' := by
  have HL := Lib.hid hl
  have HL' := Lib.hid hl'
  have HH := Lib.hid hs
  have HOK := Lib.hid hok
  clear hl hl' hs hok
  by_cases hnn : n = n'
  · subst hnn
    go_enter Tryd.func28, Tryd.ntmps28
    go_wp2_with fail
    go_loopw [17] (fun i wr => ∃ k : Nat, k ≤ n ∧ i = .int .i64 k ∧ (∀ (j : Nat) (x y : T), j < k → l[j]? = some x → l'[j]? = some y → x.sameB y = true) ∧ Below w.heap.size w wr) (fun i _ => n - (intOf i).toNat)
    case atStart => exact ⟨0, Nat.zero_le _, rfl, fun j x y h => absurd h (Nat.not_lt_zero _), Below.refl _ _⟩
    case round =>
      obtain ⟨k, hk, rfl, hall, hbel⟩ := hrel
      have HA := Lib.hid hall
      clear hall
      by_cases hkn : k < n
      · obtain ⟨g, o, rfl, hQ, hc⟩ := HL.out.cells (by omega)
        obtain ⟨g', o', rfl, hQ', hc'⟩ := HL'.out.cells (by omega)
        have hlk : l[k]? = some (l[k]'(by have := HL.out.len; omega)) := List.getElem?_eq_getElem _
        have hmem : (l[k]'(by have := HL.out.len; omega)) ∈ l := List.getElem_mem _
        generalize (l[k]'(by have := HL.out.len; omega)) = t at hlk hmem
        have hlk' : l'[k]? = some (l'[k]'(by have := HL'.out.len; omega)) := List.getElem?_eq_getElem _
        have hmem' : (l'[k]'(by have := HL'.out.len; omega)) ∈ l' := List.getElem_mem _
        generalize (l'[k]'(by have := HL'.out.len; omega)) = t' at hlk' hmem'
        have hlw := HL.out.keep (w' := wr) (Q' := Q) fun g hg hlt => ⟨hbel.block g hlt, hg⟩
        have hlw' := HL'.out.keep (w' := wr) (Q' := Q') fun g hg hlt => ⟨hbel.block g hlt, hg⟩
        obtain ⟨c0, c1, c2, c3, e0, e1, e2, e3, hint⟩ := hlw.get k _ hlk
        obtain ⟨k1, n1, b1, l1⟩ := t
        obtain ⟨A1, nb1, cb1, L1, nl1, cl1, xs1, hv, _, _⟩ := hint.open_
        injection hv with hv
        simp only [Array.mk.injEq, List.cons.injEq, and_true] at hv
        obtain ⟨rfl, rfl, rfl, rfl⟩ := hv
        have hba : Below wr.heap.size wr (wr.alloc (.cells #[.int .i64 k1, .int .i64 n1, .slice A1 nb1 cb1, .slice L1 nl1 cl1] 26)) := (Below.refl _ _).alloc (Nat.le_refl _) _
        have hlw2 := hlw'.below hba
        obtain ⟨d0, d1, d2, d3, f0, f1, f2, f3, hint'⟩ := hlw2.get k _ hlk'
        obtain ⟨k2, n2, b2, l2⟩ := t'
        obtain ⟨A2, nb2, cb2, L2, nl2, cl2, xs2, hv, _, _⟩ := hint'.open_
        injection hv with hv
        simp only [Array.mk.injEq, List.cons.injEq, and_true] at hv
        obtain ⟨rfl, rfl, rfl, rfl⟩ := hv
        have hbb : Below (wr.heap.size + 1) (wr.alloc (.cells #[.int .i64 k1, .int .i64 n1, .slice A1 nb1 cb1, .slice L1 nl1 cl1] 26)) ((wr.alloc (.cells #[.int .i64 k1, .int .i64 n1, .slice A1 nb1 cb1, .slice L1 nl1 cl1] 26)).alloc (.cells #[.int .i64 k2, .int .i64 n2, .slice A2 nb2 cb2, .slice L2 nl2 cl2] 26)) := (Below.refl _ _).alloc (by simp) _
        have HR := Lib.hid (And.intro hbel (And.intro hint (And.intro hint' (And.intro hlk (And.intro hlk' (And.intro hba hbb))))))
        have HM := Lib.hid (And.intro hmem (T.okAll_mem HOK.out _ hmem'))
        clear hbel hint hint' hlk hlk' hmem hmem' hQ hQ' hc hc' hlw hlw' hlw2 hba hbb
        go_wp2_with fail
        have hi1 := HR.out.2.1.below (HR.out.2.2.2.2.2.1.trans (HR.out.2.2.2.2.2.2.mono (Nat.le_succ _)))
        have hi2 := HR.out.2.2.1.below (w' := ((wr.alloc (.cells #[.int .i64 k1, .int .i64 n1, .slice A1 nb1 cb1, .slice L1 nl1 cl1] 26)).alloc (.cells #[.int .i64 k2, .int .i64 n2, .slice A2 nb2 cb2, .slice L2 nl2 cl2] 26))) (by rw [World.size_alloc]; exact HR.out.2.2.2.2.2.2)
        refine (HH.out _ HM.out.1 _ _ Q Q' _ _ HM.out.2 hi1 hi2).mono ?_
        rintro e w2 ⟨rfl, hb2⟩
        have hb3 : Below w.heap.size w w2 := HR.out.1.trans (((HR.out.2.2.2.2.2.1.trans (HR.out.2.2.2.2.2.2.mono (Nat.le_succ _))).mono HR.out.1.size).trans (hb2.mono (by have := HR.out.1.size; simp; omega)))
        have H3 := Lib.hid hb3
        clear hb2 hb3 hi1 hi2
        cases hq : (T.mk k1 n1 b1 l1).sameB (T.mk k2 n2 b2 l2)
        · have HQ := Lib.hid hq
          clear hq
          go_wp2_with fail
          go_ret
          exact ⟨by rw [T.sameAll_at HR.out.2.2.2.1 HR.out.2.2.2.2.1 HQ.out]; rfl, H3.out⟩
        · have HQ := Lib.hid hq
          clear hq
          go_wp2_with fail
          go_roundw
          case rel =>
            refine ⟨k + 1, by omega, by go_num, fun j x y hj hx hy => ?_, H3.out⟩
            by_cases hjk : j < k
            · exact HA.out j x y hjk hx hy
            · obtain rfl : j = k := by omega
              rw [HR.out.2.2.2.1] at hx
              rw [HR.out.2.2.2.2.1] at hy
              injection hx with hx
              injection hy with hy
              rw [← hx, ← hy]
              exact HQ.out
          case measure => simp [intOf]; omega
      · have hsame : T.sameAll l l' = true := T.sameAll_all (by rw [HL.out.len, HL'.out.len]) fun i a b ha hb => HA.out i a b (by have := (List.getElem?_eq_some_iff.1 ha).1; have := HL.out.len; omega) ha hb
        have HS := Lib.hid hsame
        clear hsame
        go_wp2_with fail
        go_ret
        exact ⟨by rw [HS.out]; rfl, hbel⟩
  · have hq : ((n : Int) == (n' : Int)) = false := by simp; omega
    go_enter Tryd.func28, Tryd.ntmps28
    go_wp2_with fail
    go_ret
    exact ⟨by rw [T.sameAll_length (by rw [HL.out.len, HL'.out.len]; exact hnn)]; rfl, Below.refl _ _⟩


theorem two_boxes (w : World) (c0 c1 c2 c3 d0 d1 d2 d3 : Value) : Below w.heap.size w ((w.alloc (.cells #[c0, c1, c2, c3] 26)).alloc (.cells #[d0, d1, d2, d3] 26)) := ((Below.refl _ _).alloc (Nat.le_refl _) _).alloc (by simp) _

set_option maxRecDepth 100000 in
set_option maxHeartbeats 1000000 in
theorem same_any : ∀ (N : Nat) (t : T), t.high < N → t.ok → SameSays t
  | 0, t, h, _ => absurd h (Nat.not_lt_zero _)
  | N + 1, .mk k n b l, hN, hok => by
    have hih : ∀ t ∈ l, SameSays t := fun t ht => same_any N t (by have := T.high_lt (k := k) (n := n) (b := b) ht; omega) (by rw [T.ok] at hok; exact T.okAll_mem hok.2.2.2.2 t ht)
    intro t' w Q Q' v v' hok' hin hin'
    obtain ⟨k', n', b', l'⟩ := t'
    obtain ⟨A, nb, cb, L, nl, cl, xs, rfl, hb, hl⟩ := hin.open_
    obtain ⟨A', nb', cb', L', nl', cl', xs', rfl, hb', hl'⟩ := hin'.open_
    have hnl : nl ≤ 1000000 := by rw [T.ok] at hok; have := hl.len; omega
    have hnl' : nl' ≤ 1000000 := by rw [T.ok] at hok'; have := hl'.len; omega
    have hall' : T.okAll l' := by rw [T.ok] at hok'; exact hok'.2.2.2.2
    have hb2 := two_boxes w (.int .i64 k) (.int .i64 n) (.slice A nb cb) (.slice L nl cl) (.int .i64 k') (.int .i64 n') (.slice A' nb' cb') (.slice L' nl' cl')
    have HB := Lib.hid hb
    have HB' := Lib.hid hb'
    have HL := Lib.hid hl
    have HL' := Lib.hid hl'
    have HH := Lib.hid hih
    have HOK := Lib.hid hall'
    have H2 := Lib.hid hb2
    obtain ⟨z, hz⟩ : ∃ z, z = T.sameB (.mk k n b l) (.mk k' n' b' l') := ⟨_, rfl⟩
    rw [← hz]
    rw [T.sameB] at hz
    have HZ := Lib.hid hz
    clear hb hb' hl hl' hih hok hok' hin hin' hN same_any hall' hb2 hz
    by_cases hk : k = k'
    · subst hk
      by_cases hn : n = n'
      · subst hn
        by_cases hbb : b = b'
        · have HBB := Lib.hid hbb
          clear hbb
          go_enter Tryd.func10, Tryd.ntmps10
          go_wp2_with fail
          refine (equal_any _ Q Q' A A' nb cb nb' cb' b b' (HB.out.below H2.out) (HB'.out.below H2.out)).mono ?_
          rintro e w2 ⟨rfl, rfl⟩
          rw [decide_eq_true HBB.out]
          go_wp2_with fail
          refine (equalFunc_any _ Q Q' L L' nl cl nl' cl' l l' xs xs' (HL.out.below H2.out) (HL'.out.below H2.out) hnl hnl' HH.out HOK.out).mono ?_
          rintro e w3 ⟨rfl, hb3⟩
          have H3 := Lib.hid (H2.out.trans (hb3.mono H2.out.size))
          clear hb3
          go_wp2_with fail
          go_ret
          exact ⟨by rw [HZ.out, decide_eq_true HBB.out]; simp, H3.out⟩
        · have HBB := Lib.hid hbb
          clear hbb
          go_enter Tryd.func10, Tryd.ntmps10
          go_wp2_with fail
          refine (equal_any _ Q Q' A A' nb cb nb' cb' b b' (HB.out.below H2.out) (HB'.out.below H2.out)).mono ?_
          rintro e w2 ⟨rfl, rfl⟩
          rw [decide_eq_false HBB.out]
          go_wp2_with fail
          go_ret
          exact ⟨by rw [HZ.out, decide_eq_false HBB.out]; simp, H2.out⟩
      · have hq : (n == n') = false := by simp [hn]
        have HN := Lib.hid hn
        clear hn
        go_enter Tryd.func10, Tryd.ntmps10
        go_wp2_with fail
        go_ret
        exact ⟨by rw [HZ.out, decide_eq_false HN.out]; simp, H2.out⟩
    · have hq : (k == k') = false := by simp [hk]
      have HN := Lib.hid hk
      clear hk
      go_enter Tryd.func10, Tryd.ntmps10
      go_wp2_with fail
      go_ret
      exact ⟨by rw [HZ.out, decide_eq_false HN.out]; simp, H2.out⟩

end Go.Proofs.YtodpojbgkeecnaaDoor
