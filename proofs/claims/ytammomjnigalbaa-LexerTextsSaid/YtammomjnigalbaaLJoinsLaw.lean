/-
  The law LexerJoins: true of any two texts. Conditions: sizes that any text has.
-/
import Derived.Test.YtammomjnigalbaaLJoinP
set_option linter.unusedSimpArgs false
set_option linter.unusedVariables false
set_option maxRecDepth 100000
namespace Go.Proofs.Ytammomjnigalbaa
open Go.RowKit

def cutL (t : ByteArray) : ByteArray := t.extract 0 (min (t.size : Int) 2000).toNat
theorem cutL_size (t : ByteArray) : (cutL t).size ≤ 2000 := by
  unfold cutL
  rw [ByteArray.size_extract]
  omega
theorem ba_join (a b : ByteArray) : bsL (a ++ ⟨#[10]⟩ ++ b) = bsL a ++ 10 :: bsL b := by
  show (a ++ ⟨#[10]⟩ ++ b).data.toList = _
  rw [ByteArray.data_append, ByteArray.data_append, Array.toList_append, Array.toList_append]
  simp [bsL]
/-- What Tokens answers, in one form. -/
def ToksAny (w : World) (s : ByteArray) (e : Ending) (w' : World) : Prop := ∃ A c ts, ∃ (L E : Nat), e = .returned (.tuple #[.slice A ts.length c, .int .i64 (L : Int), .int .i64 (E : Int)]) ∧ Below w.heap.size w w' ∧ TIn w' A ts.length c ts ∧ E = toksE (bsL s) ∧ (E = 0 → ts = (lexL 1 (bsL s)).ts ∧ L = 0) ∧ (E ≠ 0 → ts = [] ∧ L = toksN (bsL s))
theorem toks_is (w : World) (s : ByteArray) (hbig : s.size ≤ 9223372036854775807) : Calls Try.prog 6 #[.string s] w (ToksAny w s) := by
  refine (tokens_any w s hbig).mono ?_
  rintro e w' ⟨hb, ⟨h0, A, c, rfl, hT⟩ | ⟨h0, rfl⟩⟩
  · exact ⟨A, c, _, 0, 0, rfl, hb, hT, h0.symm, fun _ => ⟨rfl, rfl⟩, fun h => absurd rfl h⟩
  · exact ⟨none, 0, [], _, _, rfl, hb, TIn.none _, rfl, fun h => absurd h h0, fun _ => ⟨rfl, rfl⟩⟩
theorem toks_few {X : Lx} (h : allE X = 0) : X.ts.length ≤ 800 := by
  unfold allE at h
  split at h
  · omega
  · omega
set_option maxHeartbeats 8000000 in
theorem joins_walk (w : World) (a b : ByteArray) (ha : a.size ≤ 9223372036854775807) (hb : b.size ≤ 9223372036854775807) :
    Calls Try.prog 5 #[.string a, .string b] w fun e w' => e = .returned (.bool true) ∧ Below w.heap.size w w' := by
  have b0 : (0 : Int) ≤ min (a.size : Int) 2000 := by omega
  have b1 : min (a.size : Int) 2000 ≤ (a.size : Int) := by omega
  have c0 : (0 : Int) ≤ min (b.size : Int) 2000 := by omega
  have c1 : min (b.size : Int) 2000 ≤ (b.size : Int) := by omega
  obtain ⟨S, hS⟩ : ∃ S, S = cutL a := ⟨_, rfl⟩
  obtain ⟨T, hT⟩ : ∃ S, S = cutL b := ⟨_, rfl⟩
  have hs := cutL_size a
  have ht := cutL_size b
  rw [← hS] at hs
  rw [← hT] at ht
  have HS := Lib.hid (And.intro hS hT)
  have hs2 := Lib.hid hs
  have ht2 := Lib.hid ht
  clear hS hT
  have e10 : (⟨#[10]⟩ : ByteArray).size = 1 := rfl
  have z1 := fun W => run_string_add_sum (P := Try.prog) (w := W) S ⟨#[10]⟩ (by have := hs2.out; rw [e10]; omega)
  have z2 := fun W => run_string_add_sum (P := Try.prog) (w := W) (S ++ ⟨#[10]⟩) T (by have := hs2.out; have := ht2.out; rw [ByteArray.size_append, e10]; omega)
  obtain ⟨J, hJ⟩ : ∃ J, J = S ++ ⟨#[10]⟩ ++ T := ⟨_, rfl⟩
  have hjs : J.size ≤ 4001 := by rw [hJ, ByteArray.size_append, ByteArray.size_append, e10]; omega
  rw [← hJ] at z2
  have HJ : Hid (bsL J = bsL S ++ 10 :: bsL T) := Lib.hid (by rw [hJ, ba_join])
  have HL : Hid ((bsL S).length ≤ 2000 ∧ (bsL T).length ≤ 2000) := Lib.hid ⟨by rw [bs_len]; exact hs, by rw [bs_len]; exact ht⟩
  clear hJ e10
  go_enter Try.func5, Try.ntmps5
  go_wp2_with fail
  go_region_held3 (fun w' => True) (first | exact trivial) (first | go_in)
  all_goals (go_wp2_with fail)
  all_goals
    rw [show a.extract 0 (min (a.size : Int) 2000).toNat = S from HS.out.1.symm, show b.extract 0 (min (b.size : Int) 2000).toNat = T from HS.out.2.symm]
    refine (toks_is w.drew S (by omega)).mono ?_
    rintro e w1 ⟨A1, n1, ts1, L1, E1, rfl, hb1, hT1, hE1, hg1, hb1'⟩
    have H1 := Lib.hid (And.intro hT1 (And.intro (((pdrew w).trans hb1)) (And.intro hE1 (And.intro hg1 hb1'))))
    clear hT1 hb1 hE1 hg1 hb1'
    go_wp2_with fail
    refine (toks_is w1 T (by omega)).mono ?_
    rintro e w2 ⟨A2, n2, ts2, L2, E2, rfl, hb2, hT2, hE2, hg2, hb2'⟩
    have H2 := Lib.hid (And.intro hT2 (And.intro (H1.out.2.1.trans (hb2.mono H1.out.2.1.size)) (And.intro hE2 (And.intro hg2 (And.intro hb2' (H1.out.1.below hb2))))))
    clear hT2 hb2 hE2 hg2 hb2'
    go_wp2_with fail
    refine (toks_is w2 J (by omega)).mono ?_
    rintro e w3 ⟨A3, n3, ts3, L3, E3, rfl, hb3, hT3, hE3, hg3, hb3'⟩
    have H3 := Lib.hid (And.intro hT3 (And.intro (H2.out.2.1.trans (hb3.mono H2.out.2.1.size)) (And.intro hE3 (And.intro hg3 (And.intro (H2.out.2.2.2.2.2.below hb3) (H2.out.1.below hb3))))))
    clear hT3 hb3 hE3 hg3 hb3'
    have HX : Hid (E1 = 0 ∧ E2 = 0 → ts1 = (lexL 1 (bsL S)).ts ∧ ts2 = (lexL 1 (bsL T)).ts) := Lib.hid (fun ⟨h1, h2⟩ => ⟨(H1.out.2.2.2.1 h1).1, (H2.out.2.2.2.1 h2).1⟩)
    have HBad : Hid (¬ (E1 = 0 ∧ E2 = 0 ∧ ts1.length + ts2.length ≤ 800) → E3 ≠ 0) := Lib.hid (fun h => by
      rw [H3.out.2.2.1, HJ.out]
      refine join_bad HL.out.1 HL.out.2 (fun hh => h ?_)
      have e1 : E1 = 0 := by rw [H1.out.2.2.1]; exact hh.1
      have e2 : E2 = 0 := by rw [H2.out.2.2.1]; exact hh.2.1
      obtain ⟨t1, t2⟩ := HX.out ⟨e1, e2⟩
      exact ⟨e1, e2, by rw [t1, t2]; exact hh.2.2⟩)
    by_cases h1 : E1 = 0
    · subst h1
      have hn1 : ts1.length ≤ 800 := by
        have h5 := H1.out.2.2.1
        rw [(toks_small (by have := HL.out.1; omega)).1] at h5
        rw [(H1.out.2.2.2.1 rfl).1]
        exact toks_few h5.symm
      by_cases h2 : E2 = 0
      · subst h2
        have hn2 : ts2.length ≤ 800 := by
          have h5 := H2.out.2.2.1
          rw [(toks_small (by have := HL.out.2; omega)).1] at h5
          rw [(H2.out.2.2.2.1 rfl).1]
          exact toks_few h5.symm
        by_cases h8 : 800 < ts1.length + ts2.length
        · have h3 := HBad.out (by omega)
          obtain ⟨f1, f2, f3, f4⟩ := ne_facts E3 0 (by omega)
          have e1 : ((800 : Int) < (ts1.length : Int) + (ts2.length : Int)) = True := eq_true (by omega)
          have e2 : decide ((800 : Int) < (ts1.length : Int) + (ts2.length : Int)) = true := decide_eq_true (by omega)
          clear h8 h3
          go_wp2_with fail
          refine (lknown_walk w3).mono ?_
          rintro e w4 ⟨rfl, hb4⟩
          have H4 := Lib.hid (H3.out.2.1.trans (hb4.mono H3.out.2.1.size))
          clear hb4
          go_wp2_with fail
          go_ret
          exact ⟨rfl, H4.out⟩
        · have HG : Hid (E3 = 0 ∧ ts3.map ktL = (ts1 ++ ts2).map ktL) := Lib.hid (by
            have e1 := H1.out.2.2.1
            have e2 := H2.out.2.2.1
            have t1 := (H1.out.2.2.2.1 rfl).1
            have t2 := (H2.out.2.2.2.1 rfl).1
            have hj := join_good HL.out.1 HL.out.2 e1.symm e2.symm (by rw [← t1, ← t2]; omega)
            rw [← HJ.out] at hj
            have h3 : E3 = 0 := by rw [H3.out.2.2.1]; exact hj.1
            refine ⟨h3, ?_⟩
            rw [(H3.out.2.2.2.1 h3).1, t1, t2]
            exact hj.2)
          obtain rfl : E3 = 0 := HG.out.1
          have e1 : ((800 : Int) < (ts1.length : Int) + (ts2.length : Int)) = False := eq_false (by omega)
          have e2 : decide ((800 : Int) < (ts1.length : Int) + (ts2.length : Int)) = false := decide_eq_false (by omega)
          have HN : Hid (ts1.length + ts2.length ≤ 800) := Lib.hid (by omega)
          clear h8
          go_wp2_with fail
          refine (lknown_walk w3).mono ?_
          rintro e w4 ⟨rfl, hb4⟩
          have H4 := Lib.hid (And.intro (H3.out.2.1.trans (hb4.mono H3.out.2.1.size)) (And.intro (H3.out.1.below hb4) (And.intro (H3.out.2.2.2.2.1.below hb4) (H3.out.2.2.2.2.2.below hb4))))
          clear hb4
          go_wp2_with (first
            | (refine lapp_guard (v := .slice (some ⟨w4.heap.size, 0, none⟩) 0 0) (base := w4.heap.size) (n := 0) (m := ts1.length) (c := n1) (A := A1) (e := 37) (size := 3) (xs := []) (by rfl) rfl Try.underlying22 tk_info rfl (by decide) (rowK ts1) rfl (own_new w4 _ _) rfl (rowK_len ts1) (fun hp => (H4.out.2.2.1.below (pnew w4 _)).flat hp) (rowK_one ts1) (by omega) (by decide) (pnew w4 (.cells #[] 37)).size ?_; intro v5 w5 k1 k2 k3; rw [List.nil_append, Nat.zero_add] at k1; have hb5 := (pnew w4 (.cells #[] 37)).trans (k2.below (B := w4.heap.size) (pnew w4 (.cells #[] 37)).size (by intro k hk; simp [Value.ownBlock] at hk; omega)); have H5 := Lib.hid (And.intro k1 hb5); clear k1 k2 k3 hb5)
            | (refine lapp_guard (v := v5) (base := w4.heap.size) (n := ts1.length) (m := ts2.length) (c := n2) (A := A2) (e := 37) (size := 3) (xs := rowK ts1) (by rfl) rfl Try.underlying22 tk_info rfl (by decide) (rowK ts2) rfl H5.out.1 rfl (rowK_len ts2) (fun hp => (H4.out.2.2.2.below H5.out.2).flat hp) (rowK_one ts2) (by have := HN.out; omega) (by decide) H5.out.2.size ?_; intro v6 w6 k1 k2 k3; rw [← rowK_app, ← List.length_append] at k1; have hb6 := H5.out.2.trans (k2.below (B := w4.heap.size) H5.out.2.size (fun k hk => (H5.out.1.lt k (by simpa using hk)).1)); obtain ⟨A6, c6, rfl, hT6⟩ := TIn.of_own k1; rw [List.length_append] at hT6; have H6 := Lib.hid (And.intro hT6 (And.intro (H4.out.1.trans (hb6.mono H4.out.1.size)) (H4.out.2.1.below hb6))); clear k1 k2 k3 hb6 hT6))
          refine (lsame_any w6 _ _ _ ts3 H6.out.2.2 _ _ _ _ H6.out.1).mono ?_
          rintro e w7 ⟨rfl, hb7⟩
          have H7 := Lib.hid (H6.out.2.1.trans (hb7.mono H6.out.2.1.size))
          rw [decide_eq_true HG.out.2]
          clear hb7
          go_wp2_with fail
          go_ret
          exact ⟨rfl, H7.out⟩
      · have h3 := HBad.out (by omega)
        obtain ⟨f1, f2, f3, f4⟩ := ne_facts E3 0 (by omega)
        obtain ⟨g1, g2, g3, g4⟩ := ne_facts E2 0 (by omega)
        clear h2 h3
        go_wp2_with fail
        refine (lknown_walk w3).mono ?_
        rintro e w4 ⟨rfl, hb4⟩
        have H4 := Lib.hid (H3.out.2.1.trans (hb4.mono H3.out.2.1.size))
        clear hb4
        go_wp2_with fail
        go_ret
        exact ⟨rfl, H4.out⟩
    · have h3 := HBad.out (by omega)
      obtain ⟨f1, f2, f3, f4⟩ := ne_facts E3 0 (by omega)
      obtain ⟨g1, g2, g3, g4⟩ := ne_facts E1 0 (by omega)
      clear h1 h3
      go_wp2_with fail
      refine (lknown_walk w3).mono ?_
      rintro e w4 ⟨rfl, hb4⟩
      have H4 := Lib.hid (H3.out.2.1.trans (hb4.mono H3.out.2.1.size))
      clear hb4
      go_wp2_with fail
      go_ret
      exact ⟨rfl, H4.out⟩
end Go.Proofs.Ytammomjnigalbaa
