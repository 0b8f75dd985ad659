/-
  What kind of token begins a text, and how long it is: walked. Condition: the text's size.
-/
import Derived.Test.YtammomjnigalbaaLRun
set_option linter.unusedSimpArgs false
set_option linter.unusedVariables false
set_option maxRecDepth 100000
namespace Go.Proofs.Ytammomjnigalbaa
open Go.RowKit

/-- What measureWord answers. -/
def wordL (l : By) : Nat × Nat := keyL (spanL lWord l) (l.drop (spanL lWord l))
theorem wordL_end {l : By} {n : Nat} (hn : spanL lWord l = n) (hd : l.drop n = []) : wordL l = (0, n) := by
  unfold wordL; rw [hn, hd]; rfl
theorem wordL_no {l : By} {n : Nat} {c : UInt8} {q : By} (hn : spanL lWord l = n) (hd : l.drop n = c :: q) (hc : ¬ c.toNat = 46) : wordL l = (0, n) := by
  unfold wordL; rw [hn, hd]
  cases q with
  | nil => rfl
  | cons d q => rw [keyL_cons, if_neg hc]
theorem wordL_one {l : By} {n : Nat} {c : UInt8} (hn : spanL lWord l = n) (hd : l.drop n = [c]) : wordL l = (0, n) := by
  unfold wordL; rw [hn, hd]; rfl
theorem wordL_star {l : By} {n : Nat} {c d : UInt8} {q : By} (hn : spanL lWord l = n) (hd : l.drop n = c :: d :: q) (hc : c.toNat = 46) (h : d.toNat = 42) : wordL l = (3, n + 2) := by
  unfold wordL; rw [hn, hd, keyL_cons, if_pos hc, if_pos h]
theorem wordL_key {l : By} {n : Nat} {c d : UInt8} {q : By} (hn : spanL lWord l = n) (hd : l.drop n = c :: d :: q) (hc : c.toNat = 46) (h : lName d = true) : wordL l = (3, n + 1 + spanL lName (d :: q)) := by
  have h2 : ¬ d.toNat = 42 := fun e => by
    have : d = 42 := UInt8.toNat_inj.1 (by rw [e]; rfl)
    rw [this] at h
    exact absurd h (by decide +kernel)
  unfold wordL; rw [hn, hd, keyL_cons, if_pos hc, if_neg h2, if_pos h]
theorem wordL_other {l : By} {n : Nat} {c d : UInt8} {q : By} (hn : spanL lWord l = n) (hd : l.drop n = c :: d :: q) (h : lName d = false) (h2 : ¬ d.toNat = 42) : wordL l = (0, n) := by
  unfold wordL; rw [hn, hd, keyL_cons, if_neg h2, h]
  by_cases hc : c.toNat = 46
  · rw [if_pos hc]; rfl
  · rw [if_neg hc]
theorem wret {k n : Nat} {p : Nat × Nat} (h : p = (k, n)) : Ending.returned (.tuple #[.int .i64 (k : Int), .int .i64 (n : Int)]) = .returned (.tuple #[.int .i64 (p.1 : Nat), .int .i64 (p.2 : Nat)]) := by rw [h]
theorem wreti {a b : Int} {p : Nat × Nat} (h : (p.1 : Int) = a ∧ (p.2 : Int) = b) : Ending.returned (.tuple #[.int .i64 a, .int .i64 b]) = .returned (.tuple #[.int .i64 (p.1 : Nat), .int .i64 (p.2 : Nat)]) := by rw [h.1, h.2]
theorem wpair {p : Nat × Nat} {k n : Nat} {a b : Int} (h : p = (k, n)) (ha : (k : Int) = a) (hb : (n : Int) = b) : (p.1 : Int) = a ∧ (p.2 : Int) = b := by rw [h]; exact ⟨ha, hb⟩
theorem toList_bs (t : ByteArray) : t.toList = bsL t := ByteArray.toList_eq _
set_option maxHeartbeats 2000000 in
theorem measWord_any (w : World) (t : ByteArray) (hbig : t.size ≤ 1000000) :
    Calls Try.prog 26 #[.string t] w fun e w' => e = .returned (.tuple #[.int .i64 ((wordL (bsL t)).1 : Nat), .int .i64 ((wordL (bsL t)).2 : Nat)]) ∧ Below w.heap.size w w' := by
  have hle := spanL_le lWord (bsL t)
  rw [bs_len] at hle
  obtain ⟨n, hn⟩ : ∃ n, spanL lWord (bsL t) = n := ⟨_, rfl⟩
  have H1 := run_inWord w t (by omega)
  rw [hn] at hle H1
  have HR := Lib.hid H1
  have HN := Lib.hid hn
  have HL := Lib.hid (bs_len t)
  clear hn H1
  go_enter Try.func26, Try.ntmps26
  go_wp2_with fail
  refine HR.out.mono ?_
  rintro e w1 ⟨rfl, h1⟩
  have H1 := Lib.hid h1
  clear h1
  by_cases hend : n = t.size
  · have HF := Lib.hid (wordL_end HN.out (by rw [hend, ← HL.out, List.drop_length]))
    have e1 : ((n : Int) = (t.size : Int)) = True := eq_true (by omega)
    have e2 : decide ((n : Int) = (t.size : Int)) = true := decide_eq_true (by omega)
    have e3 : ((n : Int) == (t.size : Int)) = true := by simp; omega
    clear hend
    go_wp2_with fail
    go_ret2
    exact ⟨wreti (wpair HF.out rfl rfl), H1.out⟩
  · have hlt : n < t.size := by omega
    have e1 : ((n : Int) = (t.size : Int)) = False := eq_false (by omega)
    have e2 : decide ((n : Int) = (t.size : Int)) = false := decide_eq_false (by omega)
    have e3 : ((n : Int) == (t.size : Int)) = false := by simp; omega
    have b0 : (0 : Int) ≤ (n : Int) := by omega
    have b1 : (n : Int) < (t.size : Int) := by omega
    have b2 : (n : Int) + 1 ≤ (t.size : Int) := by omega
    obtain ⟨c, hc⟩ : ∃ c, (bsL t)[n]? = some c := ⟨_, List.getElem?_eq_getElem (by rw [HL.out]; exact hlt)⟩
    have hx := fun W => bs_index t n c hc W
    have HD : Hid ((bsL t).drop n = c :: (bsL t).drop (n + 1)) := Lib.hid (by
      obtain ⟨h1, h2⟩ := List.getElem?_eq_some_iff.1 hc
      rw [List.drop_eq_getElem_cons h1, h2])
    clear hend hc
    by_cases h46 : (c.toNat : Int) = 46
    · obtain ⟨f1, f2, f3, f4⟩ := eq_facts c.toNat 46 h46
      have HC : Hid (c.toNat = 46) := Lib.hid (by omega)
      clear h46
      obtain ⟨B, hB⟩ : ∃ B, B = t.extract (n + 1) t.size := ⟨_, rfl⟩
      have hBs : B.size = t.size - (n + 1) := by rw [hB, ByteArray.size_extract]; omega
      have HB : Hid (bsL B = (bsL t).drop (n + 1)) := Lib.hid (by rw [hB, bs_drop])
      have H2 := run_inName w1 B (by omega)
      obtain ⟨m, hm⟩ : ∃ m, spanL lName (bsL B) = m := ⟨_, rfl⟩
      have hml := spanL_le lName (bsL B)
      rw [bs_len] at hml
      rw [hm] at hml H2
      have HM := Lib.hid hm
      have HR2 := Lib.hid H2
      have HBl := Lib.hid (bs_len B)
      clear hm H2
      go_wp2_with fail
      rw [← hB]
      clear hB
      refine HR2.out.mono ?_
      rintro e w2 ⟨rfl, h2⟩
      have H3 := Lib.hid (H1.out.trans (h2.mono H1.out.size))
      clear h2
      by_cases hm0 : (m : Int) = 0
      · obtain ⟨g1, g2, g3, g4⟩ := eq_facts m 0 hm0
        by_cases hB0 : B.size = 0
        · have hBe : bsL B = [] := List.eq_nil_of_length_eq_zero (by rw [HBl.out]; exact hB0)
          have HF := Lib.hid (wordL_one HN.out (by rw [HD.out, ← HB.out, hBe]))
          have i1 : B = ByteArray.empty := ba_ext.2 hBe
          have i2 : (B.size : Int) = 0 := by omega
          have i3 : B.toList = [] := by rw [toList_bs, hBe]
          have i4 : (B.toList == []) = true := by rw [i3]; rfl
          have i5 : B.toList.isEmpty = true := by rw [i3]; rfl
          clear hBe hm0 HB HR2 HBl HM hBs hml
          go_wp2_with fail
          go_ret2
          exact ⟨wreti (wpair HF.out rfl rfl), H3.out⟩
        · obtain ⟨d, q, hdq⟩ : ∃ d q, bsL B = d :: q := by
            cases h : bsL B with
            | nil => exact absurd (by rw [← HBl.out, h]; rfl) hB0
            | cons d q => exact ⟨d, q, rfl⟩
          have hDN : lName d = false := by
            cases h : lName d with
            | false => rfl
            | true =>
              have := spanL_pos (r := q) h
              rw [← hdq, HM.out] at this
              omega
          have hy := fun W => bs_index B 0 d (by rw [hdq]; rfl) W
          have HD2 : Hid ((bsL t).drop n = c :: d :: q) := Lib.hid (by rw [HD.out, ← HB.out, hdq])
          have i1 : ¬ B = ByteArray.empty := fun h => hB0 (by rw [h]; rfl)
          have i2 : ¬ (B.size : Int) = 0 := by omega
          have i3 : ¬ B.toList = [] := by rw [toList_bs, hdq]; simp
          have i4 : (B.toList == []) = false := by simpa using i3
          have i5 : B.toList.isEmpty = false := by simpa using i3
          have i6 : (0 : Int) < (B.size : Int) := by omega
          have i7 : 0 < B.size := by omega
          have i8 : ∀ h : 0 < B.size, ((B[0]'h).toNat : Int) = (d.toNat : Int) := by
            intro h
            have := List.getElem?_eq_some_iff.1 (show (bsL B)[0]? = some d by rw [hdq]; rfl)
            obtain ⟨h1, h2⟩ := this
            rw [ByteArray.getElem_eq_getElem_data, ← Array.getElem_toList, h2]
          have HZ := Lib.hid (And.intro hDN hB0)
          clear hdq hDN hm0 hB0
          by_cases h42 : (d.toNat : Int) = 42
          · obtain ⟨j1, j2, j3, j4⟩ := eq_facts d.toNat 42 h42
            have HF := Lib.hid (wordL_star HN.out HD2.out HC.out (by omega : d.toNat = 42))
            clear h42
            go_wp2_with fail
            go_ret2
            exact ⟨wreti (wpair HF.out rfl (by omega)), H3.out⟩
          · obtain ⟨j1, j2, j3, j4⟩ := ne_facts d.toNat 42 h42
            have HF := Lib.hid (wordL_other HN.out HD2.out HZ.out.1 (by omega : ¬ d.toNat = 42))
            clear h42
            go_wp2_with fail
            go_ret2
            exact ⟨wreti (wpair HF.out rfl rfl), H3.out⟩
      · obtain ⟨g1, g2, g3, g4⟩ := ne_facts m 0 hm0
        have HF : Hid (wordL (bsL t) = (3, n + 1 + m)) := Lib.hid (by
          cases h : bsL B with
          | nil =>
            have := HM.out
            rw [h] at this
            exact absurd (by rw [← this]; rfl) hm0
          | cons d q =>
            have hd : lName d = true := by
              cases hx : lName d with
              | true => rfl
              | false =>
                have := spanL_one (r := q) hx
                rw [← h, HM.out] at this
                exact absurd (by rw [this]; rfl) hm0
            rw [wordL_key HN.out (by rw [HD.out, ← HB.out, h]) HC.out hd, ← h, HM.out])
        clear hm0
        go_wp2_with fail
        go_ret2
        exact ⟨wreti (wpair HF.out rfl (by omega)), H3.out⟩
    · obtain ⟨f1, f2, f3, f4⟩ := ne_facts c.toNat 46 h46
      have HF := Lib.hid (wordL_no HN.out HD.out (by omega : ¬ c.toNat = 46))
      clear h46
      go_wp2_with fail
      go_ret2
      exact ⟨wreti (wpair HF.out rfl rfl), H1.out⟩
/-- What measure answers: 0, where none begins. -/
def measL (l : By) : Nat × Nat := (tokL l).getD (0, 0)
theorem measL_some {l : By} {k n : Nat} (h : tokL l = some (k, n)) : measL l = (k, n) := by unfold measL; rw [h]; rfl
theorem measL_none {l : By} (h : tokL l = none) : measL l = (0, 0) := by unfold measL; rw [h]; rfl
theorem tokL_word {c : UInt8} {r : By} (h : lLet c = true) : tokL (c :: r) = some (wordL (c :: r)) := by rw [tokL_cons, if_pos h]; rfl
set_option maxHeartbeats 2000000 in
theorem meas_any (w : World) (t : ByteArray) (hbig : t.size ≤ 1000000) (c : UInt8) (r : By) (ht : bsL t = c :: r) :
    Calls Try.prog 21 #[.string t] w fun e w' => e = .returned (.tuple #[.int .i64 ((measL (bsL t)).1 : Nat), .int .i64 ((measL (bsL t)).2 : Nat)]) ∧ Below w.heap.size w w' := by
  have hsz : 0 < t.size := by rw [← bs_len, ht]; simp
  have hy := fun W => bs_index t 0 c (by rw [ht]; rfl) W
  have i6 : (0 : Int) < (t.size : Int) := by omega
  have i8 : ∀ h : 0 < t.size, ((t[0]'h).toNat : Int) = (c.toNat : Int) := by
    intro h
    obtain ⟨h1, h2⟩ := List.getElem?_eq_some_iff.1 (show (bsL t)[0]? = some c by rw [ht]; rfl)
    rw [ByteArray.getElem_eq_getElem_data, ← Array.getElem_toList, h2]
  have HT := Lib.hid ht
  clear ht
  go_enter Try.func21, Try.ntmps21
  go_wp2_with fail
  refine (isLetter_any w c.toNat).mono ?_
  rintro e w1 ⟨rfl, h1⟩
  rw [show nLet c.toNat = lLet c from rfl]
  have H1 := Lib.hid h1
  clear h1
  cases hl : lLet c with
  | true =>
    have HM : Hid (measL (bsL t) = wordL (bsL t)) := Lib.hid (by rw [HT.out]; unfold measL; rw [tokL_word hl]; rfl)
    clear hl
    go_wp2_with fail
    refine (measWord_any w1 t hbig).mono ?_
    rintro e w2 ⟨rfl, h2⟩
    rw [← HM.out]
    have H2 := Lib.hid (H1.out.trans (h2.mono H1.out.size))
    clear h2
    go_wp2_with fail
    go_ret2
    exact ⟨rfl, H2.out⟩
  | false =>
    have HL := Lib.hid hl
    clear hl
    go_wp2_with fail
    refine (isDigit_any w1 c.toNat).mono ?_
    rintro e w2 ⟨rfl, h2⟩
    rw [show nDig c.toNat = lDig c from rfl]
    have H2 := Lib.hid (H1.out.trans (h2.mono H1.out.size))
    clear h2
    cases hd : lDig c with
    | true =>
      have HM : Hid (measL (bsL t) = (1, spanL lDig (bsL t))) := Lib.hid (measL_some (by rw [HT.out, tokL_cons, HL.out, hd]; rfl))
      clear hd
      go_wp2_with fail
      refine (run_isDigit w2 t (by omega)).mono ?_
      rintro e w3 ⟨rfl, h3⟩
      have H3 := Lib.hid (H2.out.trans (h3.mono H2.out.size))
      clear h3
      go_wp2_with fail
      go_ret2
      exact ⟨wreti (wpair HM.out rfl rfl), H3.out⟩
    | false =>
      have HD := Lib.hid hd
      clear hd
      by_cases h47 : (c.toNat : Int) = 47
      · obtain ⟨f1, f2, f3, f4⟩ := eq_facts c.toNat 47 h47
        have HM : Hid (measL (bsL t) = (2, spanL lPath (bsL t))) := Lib.hid (measL_some (by rw [HT.out, tokL_cons, HL.out, HD.out, if_neg (by decide), if_neg (by decide), if_pos (by omega)]))
        clear h47
        go_wp2_with fail
        refine (run_inPath w2 t (by omega)).mono ?_
        rintro e w3 ⟨rfl, h3⟩
        have H3 := Lib.hid (H2.out.trans (h3.mono H2.out.size))
        clear h3
        go_wp2_with fail
        go_ret2
        exact ⟨wreti (wpair HM.out rfl rfl), H3.out⟩
      · obtain ⟨f1, f2, f3, f4⟩ := ne_facts c.toNat 47 h47
        have HP : Hid (tokL (bsL t) = if lSign c then some (4, 1) else none) := Lib.hid (by rw [HT.out, tokL_cons, HL.out, HD.out, if_neg (by decide), if_neg (by decide), if_neg (by omega)])
        clear h47
        go_wp2_with fail
        refine (isSign_any w2 c).mono ?_
        rintro e w3 ⟨rfl, h3⟩
        have H3 := Lib.hid (H2.out.trans (h3.mono H2.out.size))
        clear h3
        cases hs : lSign c with
        | true =>
          have HM : Hid (measL (bsL t) = (4, 1)) := Lib.hid (measL_some (by rw [HP.out, hs]; rfl))
          clear hs
          go_wp2_with fail
          go_ret2
          exact ⟨wreti (wpair HM.out rfl rfl), H3.out⟩
        | false =>
          have HM : Hid (measL (bsL t) = (0, 0)) := Lib.hid (measL_none (by rw [HP.out, hs]; rfl))
          clear hs
          go_wp2_with fail
          go_ret2
          exact ⟨wreti (wpair HM.out rfl rfl), H3.out⟩
end Go.Proofs.Ytammomjnigalbaa
