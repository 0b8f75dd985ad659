/-
  The law's own 'known': the chapter's examples hold. Condition: the library's table is as laid.
-/
import Derived.Test.YtodpojbgkeecnaaDoorCNext
import Derived.Lib.SlBytesConst
set_option linter.unusedSimpArgs false
set_option linter.unusedVariables false
namespace Go.Proofs.YtodpojbgkeecnaaDoor
open Go.RowKit

def kList : List T := [.mk 0 12 [] [], .mk 1 0 [97, 98] [], .mk 2 0 [] []]
def kTree : T := .mk 2 0 [] kList
theorem k_enc : kTree.enc = [40, 105, 49, 50, 59, 50, 58, 97, 98, 40, 41, 41] := by
  have h12 : Lib.itoa 12 = [49, 50] := by
    unfold Lib.itoa
    rw [if_neg (by omega)]
    show Lib.decDigits 12 = _
    rw [Lib.decDigits_two (i := 12) (by omega) (by omega)]
    rfl
  have h2 : Lib.itoa 2 = [50] := by
    unfold Lib.itoa
    rw [if_neg (by omega)]
    show Lib.decDigits 2 = _
    rw [Lib.decDigits_one (i := 2) (by omega)]
    rfl
  simp [kTree, kList, T.enc, T.encAll, h12, h2]
theorem k_check : kTree.check = 0 := by
  simp [kTree, kList, T.check, T.strangeB, T.dep, T.depAll, T.anyAll, T.anyB]
theorem k_ok : kTree.ok := by
  simp [kTree, kList, T.ok, T.okAll]

theorem Row.cons {w : World} {Q : Nat → Prop} {t : T} {r : List T} {c0 c1 c2 c3 : Value} {ys : List Value} (h : In w Q t (.agg #[c0, c1, c2, c3])) (hr : Row w Q r ys) : Row w Q (t :: r) (c0 :: c1 :: c2 :: c3 :: ys) := by
  rw [Row]
  exact ⟨c0, c1, c2, c3, ys, rfl, h, hr⟩
/-- A slice of values that was built of a few. -/
theorem built_lin (w : World) (Q : Nat → Prop) (l : List T) (xs : List Value) (n : Nat) (hn : l.length = n) (hnm : n ≤ maxLen) (hr : Row w Q l xs) : LIn (w.alloc (.cells xs.toArray 26)) (fun _ => True) (some ⟨w.heap.size, 0, none⟩) n n l xs := by
  refine ⟨hn, Nat.le_refl _, hnm, (fun h => by cases h), fun _ => ⟨w.heap.size, 0, rfl, trivial, fun j u hu => ?_⟩, Row.keep _ _ hr fun g _ hlt => ⟨Below.heap_alloc w _ g hlt, trivial⟩⟩
  rw [Nat.zero_add, (Blk.new w 26 xs).cell j]
  exact hu

theorem const_bin (w : World) (cs : Array Value) (fr : Nat × Nat) (b : List UInt8) (n : Nat) (hn : b.length = n) (hnm : n ≤ maxLen) (hcs : cs.toList = Lib.byteCells b) : BIn (w.alloc (.cells cs 5 fr)) (fun _ => True) (some ⟨w.heap.size, 0, none⟩) n n b := by
  refine ⟨hn, Nat.le_refl _, hnm, (fun h => by cases h), fun _ => ⟨w.heap.size, 0, rfl, trivial, fun j x hx => ?_⟩⟩
  rw [Nat.zero_add, cell_of_row _ _ j _ _ _ (heap_alloc_new w _), ← Array.getElem?_toList, hcs]
  simp [Lib.byteCells, hx]
theorem signs_a : Signs [45, 48] [59] := by
  refine ⟨fun j x hx => ?_, fun y hy => ?_⟩
  · match j, hx with
    | 0, hx => simp at hx; exact .inr ⟨rfl, hx.symm⟩
    | 1, hx => simp at hx; subst hx; exact .inl (by decide)
    | j + 2, hx => simp at hx
  · simp at hy; subst hy; exact ⟨by decide, fun h => by cases h⟩
theorem signs_b : Signs [48, 49] [59] := by
  refine ⟨fun j x hx => ?_, fun y hy => ?_⟩
  · match j, hx with
    | 0, hx => simp at hx; subst hx; exact .inl (by decide)
    | 1, hx => simp at hx; subst hx; exact .inl (by decide)
    | j + 2, hx => simp at hx
  · simp at hy; subst hy; exact ⟨by decide, fun h => by cases h⟩

set_option maxRecDepth 100000 in
set_option maxHeartbeats 1000000 in
theorem known_walk (B : Nat) (w : World) (hB : B ≤ w.heap.size) (htab : Tab B w) : Calls Tryd.prog 11 #[] w fun e w' => e = .returned (.bool true) ∧ Below w.heap.size w w' := by
  have HT := Lib.hid htab
  clear htab
  go_enter Tryd.func11, Tryd.ntmps11
  go_wp2_with fail
  refine (int_any _ 12).mono ?_
  rintro e w1 ⟨rfl, hb1⟩
  have H1 := Lib.hid hb1
  clear hb1
  go_wp2_with fail
  refine (text_any w1 ⟨#[97, 98]⟩ (by decide)).mono ?_
  rintro e w2 ⟨v2, rfl, hin2, hb2⟩
  obtain ⟨A2, nb2, cb2, L2, nl2, cl2, xs2, rfl, _, _⟩ := hin2.open_
  have H2 := Lib.hid (And.intro hin2 (H1.out.trans (hb2.mono H1.out.size)))
  clear hin2 hb2
  go_wp2_with fail
  refine (of_any w2 (fun _ => True) none 0 0 [] [] (LIn.none _ _) (by simp [T.ok, T.okAll])).mono ?_
  rintro e w3 ⟨v3, rfl, hin3, hb3⟩
  obtain ⟨A3, nb3, cb3, L3, nl3, cl3, xs3, rfl, _, _⟩ := hin3.open_
  have H3 := Lib.hid (And.intro hin3 (And.intro (H2.out.1.below hb3) (H2.out.2.trans (hb3.mono H2.out.2.size))))
  clear hin3 hb3
  go_wp2_with fail
  have hrow : Row w3 (fun _ => True) kList [.int .i64 0, .int .i64 12, .slice none 0 0, .slice none 0 0, .int .i64 1, .int .i64 0, .slice A2 nb2 cb2, .slice L2 nl2 cl2, .int .i64 2, .int .i64 0, .slice A3 nb3 cb3, .slice L3 nl3 cl3] :=
    Row.cons (In.int _ _ 12) (Row.cons (H3.out.2.1.mono fun _ _ _ => trivial) (Row.cons (H3.out.1.mono fun _ _ _ => trivial) Row.nil))
  have hlin := built_lin w3 _ kList _ 3 rfl (by unfold maxLen; omega) hrow
  have hbw := below_new w3 (.cells #[.int .i64 0, .int .i64 12, .slice none 0 0, .slice none 0 0, .int .i64 1, .int .i64 0, .slice A2 nb2 cb2, .slice L2 nl2 cl2, .int .i64 2, .int .i64 0, .slice A3 nb3 cb3, .slice L3 nl3 cl3] 26)
  refine (of_any _ _ _ 3 3 kList _ hlin k_ok).mono ?_
  rintro e w4 ⟨v4, rfl, hin4, hb4⟩
  have hin4 : In w4 _ kTree v4 := hin4
  have hb4' := H3.out.2.2.trans ((hbw.trans (hb4.mono hbw.size)).mono H3.out.2.2.size)
  have H4 := Lib.hid (And.intro hin4 hb4')
  clear hin4 hb4 hb4' hbw hlin hrow
  obtain ⟨k4, hk4⟩ : ∃ k4, k4 = v4 := ⟨_, rfl⟩
  go_wp2_with fail
  refine (encode_any kTree k_ok (by rw [k_enc]; decide) B w4 _ v4 (Nat.le_trans hB H4.out.2.size) (HT.out.later hB H4.out.2) H4.out.1).mono ?_
  rintro e w5 ⟨hb5, h5⟩
  rcases h5 with ⟨hne, _⟩ | ⟨_, v5, rfl, ho5⟩
  · exact absurd k_check hne
  rw [k_enc] at ho5
  obtain ⟨A5, c5, hv5, hbin5⟩ := own_bin ho5
  have hv5 : v5 = .slice A5 12 c5 := hv5
  subst hv5
  have hbin5 : BIn w5 (fun g => w4.heap.size ≤ g) A5 12 c5 [40, 105, 49, 50, 59, 50, 58, 97, 98, 40, 41, 41] := hbin5
  have H5 := Lib.hid (And.intro hbin5 (H4.out.2.trans (hb5.mono H4.out.2.size)))
  clear hb5 ho5 hbin5
  have hc1 := Lib.run_convert_bytes_const (P := Tryd.prog) w5 23 5 #[.int .u8 105, .int .u8 45, .int .u8 48, .int .u8 59] 4 4 Tryd.underlying23 Tryd.underlying5
  simp only [List.size_toArray, List.length_cons, List.length_nil, World.size_alloc, Nat.zero_add, Nat.reduceAdd] at hc1
  go_wp2_with fail
  refine (decode_form _ _ _ 4 4 [45, 48] [] (const_bin w5 #[.int .u8 105, .int .u8 45, .int .u8 48, .int .u8 59] (4, 5) [105, 45, 48, 59] 4 rfl (by unfold maxLen; omega) rfl) signs_a (by decide) (by decide)).mono ?_
  rintro e w6 ⟨rfl, hb6⟩
  have hbw6 : Below w5.heap.size w5 w6 := (below_new w5 _).trans (hb6.mono (by simp))
  have H6 := Lib.hid hbw6
  clear hb6 hbw6 hc1
  have hc2 := Lib.run_convert_bytes_const (P := Tryd.prog) (w6.alloc (.cells #[.int .i64 0, .int .i64 0, .slice none 0 0, .slice none 0 0] 26)) 23 5 #[.int .u8 105, .int .u8 48, .int .u8 49, .int .u8 59] 4 4 Tryd.underlying23 Tryd.underlying5
  simp only [List.size_toArray, List.length_cons, List.length_nil, World.size_alloc, Nat.zero_add, Nat.reduceAdd] at hc2
  go_wp2_with fail
  have hcb := const_bin (w6.alloc (.cells #[.int .i64 0, .int .i64 0, .slice none 0 0, .slice none 0 0] 26)) #[.int .u8 105, .int .u8 48, .int .u8 49, .int .u8 59] (4, 5) [105, 48, 49, 59] 4 rfl (by unfold maxLen; omega) rfl
  rw [World.size_alloc] at hcb
  refine (decode_form _ _ _ 4 4 [48, 49] [] hcb signs_b (by decide) (by decide)).mono ?_
  rintro e w7 ⟨rfl, hb7⟩
  have hbw7 : Below w5.heap.size w5 w7 := H6.out.trans ((((below_new w6 _).alloc (by simp) _).trans (hb7.mono (by simp; omega))).mono H6.out.size)
  have hbw8 := hbw7.alloc hbw7.size (.cells #[.int .i64 0, .int .i64 0, .slice none 0 0, .slice none 0 0] 26)
  have H7 := Lib.hid hbw8
  clear hb7 hbw7 hc2 hcb
  have hcv := (bytes_in (H5.out.1.below hbw8)).convert (P := Tryd.prog) (by simp) c5 23 5 9 Tryd.underlying23 Tryd.underlying5 Tryd.underlying9
  rw [str_nat] at hcv
  clear hbw8
  go_wp2_with fail
  go_ret
  exact ⟨rfl, H5.out.2.trans (H7.out.mono H5.out.2.size)⟩

end Go.Proofs.YtodpojbgkeecnaaDoor
