/-
  value: a right value's bytes are read as it was. Conditions: the reader's block is known, its bytes lie in blocks below it.
-/
import Derived.Test.YtodpojbgkeecnaaDoorCList
set_option linter.unusedSimpArgs false
set_option linter.unusedVariables false
namespace Go.Proofs.YtodpojbgkeecnaaDoor
open Go.RowKit

theorem T.right_shape {k n : Int} {b : List UInt8} {l : List T} (h : T.anyB (.mk k n b l) = false) : (k = 0 ∧ b = [] ∧ l = []) ∨ (k = 1 ∧ n = 0 ∧ l = []) ∨ (k = 2 ∧ n = 0 ∧ b = [] ∧ T.anyAll l = false) := by
  rw [T.anyB, Bool.or_eq_false_iff, T.strangeB] at h
  obtain ⟨h1, h2⟩ := h
  split at h1
  · rename_i k0
    simp at h1
    exact .inl ⟨k0, h1.1, h1.2⟩
  · split at h1
    · rename_i k1
      simp at h1
      exact .inr (.inl ⟨k1, h1.1, h1.2⟩)
    · split at h1
      · rename_i k2
        simp at h1
        exact .inr (.inr ⟨k2, h1.1, h1.2, h2⟩)
      · cases h1
theorem T.anyAll_mem : ∀ {l : List T}, T.anyAll l = false → ∀ t ∈ l, t.anyB = false
  | s :: r, h, t, ht => by
    rw [T.anyAll, Bool.or_eq_false_iff] at h
    rcases List.mem_cons.1 ht with rfl | ht
    · exact h.1
    · exact T.anyAll_mem h.2 t ht

/-- value's first steps, up to the reading of one kind. -/
theorem value_num (w : World) (R : Nat) (op : Int) (m : Int) (r : List UInt8) (h : IsRd w R op (105 :: (Lib.itoa m ++ 59 :: r))) (hm : -9223372036854775808 ≤ m ∧ m ≤ 9223372036854775807) (hr : r.length ≤ 900000) :
    Calls Tryd.prog 36 #[.pointer (some ⟨R, 0, none⟩)] w (ReadPost (.mk 0 m [] []) R op r w) := by
  have hR := h.lt
  have hend := ended_any _ R op _ (h.below (below_new w (.cells #[.int .i64 0, .int .i64 0, .slice none 0 0, .slice none 0 0] 26)))
  have hty := take_yes _ R op 105 _ (h.below (below_new w (.cells #[.int .i64 0, .int .i64 0, .slice none 0 0, .slice none 0 0] 26))) 105 rfl
  simp only [List.isEmpty_cons] at hend
  have HM := Lib.hid hm
  clear h hm
  go_enter Tryd.func36, Tryd.ntmps36
  go_wp2_with fail
  refine hend.mono ?_
  rintro e w1 ⟨rfl, rfl⟩
  clear hend
  go_wp2_with fail
  refine hty.mono ?_
  rintro e w2 ⟨rfl, h2, ho2⟩
  clear hty
  have H2 := Lib.hid (And.intro h2 ho2)
  clear h2 ho2
  go_wp2_with fail
  refine (number_ok w2 R op m r H2.out.1 HM.out hr).mono ?_
  rintro e w3 ⟨v3, rfl, hin3, hrd3, ho3⟩
  obtain ⟨A3, nb3, cb3, L3, nl3, cl3, xs3, rfl, _, _⟩ := hin3.open_
  have ho := H2.out.2.trans ho3
  obtain ⟨hz, z0, z1, z2, z3, y0, y1, y2, y3⟩ := z_cells ho (by simp; omega)
  have hin4 := hin3.mono (Q' := fun g => w.heap.size < g) (fun g hg _ => by have := H2.out.2.size; simp at this; omega)
  have H3 := Lib.hid (And.intro hin4 (And.intro hrd3 ho))
  clear hin3 hin4 hrd3 ho3 ho hz
  go_wp2_with fail
  refine bodyPost_ret (v := .tuple #[.agg #[.int .i64 0, .int .i64 m, .slice A3 nb3 cb3, .slice L3 nl3 cl3], .int .i64 0]) (by simp [results, Tryd.results36, go_sem, z0, z1, z2, z3]) rfl ?_
  exact read_end H3.out.1 H3.out.2.1 H3.out.2.2 hR

theorem value_lst (w : World) (R : Nat) (op : Int) (l : List T) (r : List UInt8) (h : IsRd w R op (40 :: (T.encAll l ++ 41 :: r))) (hs : ∀ t ∈ l, ReadSays t) (h0 : 0 ≤ op) (h8 : op + 1 + (T.depAll l : Int) ≤ 8) (hlen : (T.encAll l ++ 41 :: r).length ≤ 900000) (hl : l.length ≤ 1000000) :
    Calls Tryd.prog 36 #[.pointer (some ⟨R, 0, none⟩)] w (ReadPost (.mk 2 0 [] l) R op r w) := by
  have hR := h.lt
  have hend := ended_any _ R op _ (h.below (below_new w (.cells #[.int .i64 0, .int .i64 0, .slice none 0 0, .slice none 0 0] 26)))
  have htn := take_no _ R op 40 _ (h.below (below_new w (.cells #[.int .i64 0, .int .i64 0, .slice none 0 0, .slice none 0 0] 26))) 105 (by decide)
  have hty := take_yes _ R op 40 _ (h.below (below_new w (.cells #[.int .i64 0, .int .i64 0, .slice none 0 0, .slice none 0 0] 26))) 40 rfl
  simp only [List.isEmpty_cons] at hend
  have HS := Lib.hid (And.intro hs (And.intro h8 hlen))
  clear h hs h8 hlen
  go_enter Tryd.func36, Tryd.ntmps36
  go_wp2_with fail
  refine hend.mono ?_
  rintro e w1 ⟨rfl, rfl⟩
  clear hend
  go_wp2_with fail
  refine htn.mono ?_
  rintro e w1 ⟨rfl, rfl⟩
  clear htn
  go_wp2_with fail
  refine hty.mono ?_
  rintro e w2 ⟨rfl, h2, ho2⟩
  clear hty
  have H2 := Lib.hid (And.intro h2 ho2)
  clear h2 ho2
  go_wp2_with fail
  refine (list_ok w2 R op l r H2.out.1 HS.out.1 h0 HS.out.2.1 HS.out.2.2 hl).mono ?_
  rintro e w3 ⟨v3, rfl, hin3, hrd3, ho3⟩
  obtain ⟨A3, nb3, cb3, L3, nl3, cl3, xs3, rfl, _, _⟩ := hin3.open_
  have ho := H2.out.2.trans ho3
  obtain ⟨hz, z0, z1, z2, z3, y0, y1, y2, y3⟩ := z_cells ho (by simp; omega)
  have hin4 := hin3.mono (Q' := fun g => w.heap.size < g) (fun g hg _ => by have := H2.out.2.size; simp at this; omega)
  have H3 := Lib.hid (And.intro hin4 (And.intro hrd3 ho))
  clear hin3 hin4 hrd3 ho3 ho hz
  go_wp2_with fail
  refine bodyPost_ret (v := .tuple #[.agg #[.int .i64 2, .int .i64 0, .slice A3 nb3 cb3, .slice L3 nl3 cl3], .int .i64 0]) (by simp [results, Tryd.results36, go_sem, z0, z1, z2, z3]) rfl ?_
  exact read_end H3.out.1 H3.out.2.1 H3.out.2.2 hR

set_option maxRecDepth 100000 in
theorem value_txt (w : World) (R : Nat) (op : Int) (b r : List UInt8) (h : IsRd w R op (Lib.itoa (b.length : Int) ++ 58 :: (b ++ r))) (hr : b.length + r.length ≤ 900000) :
    Calls Tryd.prog 36 #[.pointer (some ⟨R, 0, none⟩)] w (ReadPost (.mk 1 0 b []) R op r w) := by
  have hR := h.lt
  obtain ⟨x, re, hx, hxd⟩ := itoa_head b.length
  have h' := h
  rw [hx] at h'
  have hend := ended_any _ R op _ (h'.below (below_new w (.cells #[.int .i64 0, .int .i64 0, .slice none 0 0, .slice none 0 0] 26)))
  have hxn := hxd
  simp only [isD, Bool.and_eq_true, decide_eq_true_eq] at hxn
  have htn := take_no _ R op x _ (h'.below (below_new w (.cells #[.int .i64 0, .int .i64 0, .slice none 0 0, .slice none 0 0] 26))) 105 (by omega)
  have htm := take_no _ R op x _ (h'.below (below_new w (.cells #[.int .i64 0, .int .i64 0, .slice none 0 0, .slice none 0 0] 26))) 40 (by omega)
  obtain ⟨g, o, n, c, c0, hn, cx⟩ := first_cell (h'.below (below_new w (.cells #[.int .i64 0, .int .i64 0, .slice none 0 0, .slice none 0 0] 26)))
  have hdg := digit_is (w.alloc (.cells #[.int .i64 0, .int .i64 0, .slice none 0 0, .slice none 0 0] 26)) x true hxd
  simp only [List.cons_append, List.isEmpty_cons] at hend
  have H := Lib.hid (h.below (below_new w (.cells #[.int .i64 0, .int .i64 0, .slice none 0 0, .slice none 0 0] 26)))
  clear h h' hx hxd hxn
  go_enter Tryd.func36, Tryd.ntmps36
  go_wp2_with fail
  refine hend.mono ?_
  rintro e w1 ⟨rfl, rfl⟩
  clear hend
  go_wp2_with fail
  refine htn.mono ?_
  rintro e w1 ⟨rfl, rfl⟩
  clear htn
  go_wp2_with fail
  refine htm.mono ?_
  rintro e w1 ⟨rfl, rfl⟩
  clear htm
  go_wp2_with fail
  refine hdg.mono ?_
  rintro e w1 ⟨rfl, rfl⟩
  clear hdg
  go_wp2_with fail
  refine (bytes_ok _ R op b r H.out hr).mono ?_
  rintro e w3 ⟨v3, rfl, hin3, hrd3, ho3⟩
  obtain ⟨A3, nb3, cb3, L3, nl3, cl3, xs3, rfl, _, _⟩ := hin3.open_
  obtain ⟨hz, z0, z1, z2, z3, y0, y1, y2, y3⟩ := z_cells ho3 (by simp; omega)
  have hin4 := hin3.mono (Q' := fun g => w.heap.size < g) (fun g hg _ => by simp at hg; omega)
  have H3 := Lib.hid (And.intro hin4 (And.intro hrd3 ho3))
  clear hin3 hin4 hrd3 ho3 hz
  go_wp2_with fail
  refine bodyPost_ret (v := .tuple #[.agg #[.int .i64 1, .int .i64 0, .slice A3 nb3 cb3, .slice L3 nl3 cl3], .int .i64 0]) (by simp [results, Tryd.results36, go_sem, z0, z1, z2, z3]) rfl ?_
  exact read_end H3.out.1 H3.out.2.1 H3.out.2.2 hR

theorem value_form (w : World) (R : Nat) (op : Int) (d : List UInt8) (r : List UInt8) (h : IsRd w R op (105 :: (d ++ 59 :: r))) (hsg : Signs d (59 :: r)) (hpl : plainB d = false) (hr : d.length + r.length ≤ 900000) :
    Calls Tryd.prog 36 #[.pointer (some ⟨R, 0, none⟩)] w (ErrPost R 3 w) := by
  have hR := h.lt
  have hend := ended_any _ R op _ (h.below (below_new w (.cells #[.int .i64 0, .int .i64 0, .slice none 0 0, .slice none 0 0] 26)))
  have hty := take_yes _ R op 105 _ (h.below (below_new w (.cells #[.int .i64 0, .int .i64 0, .slice none 0 0, .slice none 0 0] 26))) 105 rfl
  simp only [List.isEmpty_cons] at hend
  have HS := Lib.hid (And.intro hsg hpl)
  clear h hsg hpl
  go_enter Tryd.func36, Tryd.ntmps36
  go_wp2_with fail
  refine hend.mono ?_
  rintro e w1 ⟨rfl, rfl⟩
  clear hend
  go_wp2_with fail
  refine hty.mono ?_
  rintro e w2 ⟨rfl, h2, ho2⟩
  clear hty
  have H2 := Lib.hid (And.intro h2 ho2)
  clear h2 ho2
  go_wp2_with fail
  refine (number_form w2 R op d r H2.out.1 HS.out.1 HS.out.2 hr).mono ?_
  rintro e w3 ⟨rfl, ho3, bs, op', hrd3⟩
  have ho := H2.out.2.trans ho3
  obtain ⟨hz, z0, z1, z2, z3, y0, y1, y2, y3⟩ := z_cells ho (by simp; omega)
  have H3 := Lib.hid (And.intro hrd3 ho)
  clear hrd3 ho3 ho hz
  go_wp2_with fail
  refine bodyPost_ret (v := .tuple #[.agg #[.int .i64 0, .int .i64 0, .slice none 0 0, .slice none 0 0], .int .i64 3]) (by simp [results, Tryd.results36, go_sem, z0, z1, z2, z3]) rfl ?_
  exact err_end H3.out.1 H3.out.2 hR

theorem value_ok : ∀ (N : Nat) (t : T), t.high < N → t.ok → t.anyB = false → ReadSays t
  | 0, t, h, _, _ => absurd h (Nat.not_lt_zero _)
  | N + 1, .mk k n b l, hN, hok, hr => by
    intro w R op r h0 h8 h hlen
    rw [T.ok] at hok
    rcases T.right_shape hr with ⟨rfl, rfl, rfl⟩ | ⟨rfl, rfl, rfl⟩ | ⟨rfl, rfl, rfl, hl⟩
    · have he : (T.mk 0 n [] []).enc = 105 :: (Lib.itoa n ++ [59]) := by rw [T.enc, if_pos rfl]
      rw [he] at h hlen
      simp only [List.cons_append, List.append_assoc, List.nil_append] at h hlen
      exact value_num w R op n r h hok.2.1 (by simp at hlen; omega)
    · have he : (T.mk 1 0 b []).enc = Lib.itoa (b.length : Int) ++ 58 :: b := by rw [T.enc, if_neg (by omega), if_pos rfl]
      rw [he] at h hlen
      simp only [List.append_assoc, List.cons_append] at h hlen
      exact value_txt w R op b r h (by simp at hlen; omega)
    · have he : (T.mk 2 0 [] l).enc = 40 :: (T.encAll l ++ [41]) := by rw [T.enc, if_neg (by omega), if_neg (by omega)]
      rw [he] at h hlen
      simp only [List.cons_append, List.append_assoc, List.nil_append] at h hlen
      have hd : (T.mk 2 0 [] l).dep = T.depAll l + 1 := by rw [T.dep, if_pos rfl]
      rw [hd] at h8
      refine value_lst w R op l r h (fun t ht => value_ok N t ?_ (T.okAll_mem hok.2.2.2.2 t ht) (T.anyAll_mem hl t ht)) h0 (by omega) (by simp at hlen ⊢; omega) hok.2.2.2.1
      have := T.high_lt (k := 2) (n := 0) (b := []) ht
      omega

end Go.Proofs.YtodpojbgkeecnaaDoor
