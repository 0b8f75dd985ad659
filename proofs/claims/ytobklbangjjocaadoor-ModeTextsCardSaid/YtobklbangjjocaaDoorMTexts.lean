/-
  ModeTexts, walked: for every number, every text and every kind it returns true. Conditions: the listed variables are as their initialisers lay them; a text of fewer than 2^63 bytes.
-/
import Derived.Test.YtobklbangjjocaaDoorMKnown
import Derived.Test.YtobklbangjjocaaDoorMMode
import Derived.Test.YtobklbangjjocaaDoorMText
set_option linter.unusedSimpArgs false
set_option linter.unusedVariables false
set_option maxRecDepth 100000
namespace Go.Proofs.YtobklbangjjocaaDoor
open Go.RowKit

theorem text_is (w : World) (hz : Tz w) (n : Int) (T : ByteArray) (hT : ⟨(modeText n).toArray⟩ = T) : Calls Tryd.prog 8 #[.int .i64 n] w fun e w' => e = .returned (.string T) ∧ Below w.heap.size w w' := by
  have := text_any w hz n
  rwa [hT] at this
theorem rtext_is (w : World) (n : Int) (T : ByteArray) (hT : ⟨(modeText n).toArray⟩ = T) : Calls Tryd.prog 10 #[.int .i64 n] w fun e w' => e = .returned (.string T) ∧ Below w.heap.size w w' := by
  have := rtext_any w n
  rwa [hT] at this
theorem text_back {S : ByteArray} {m : Nat} (h : modeParse S.data.toList = some m) : (⟨(modeText (m : Int)).toArray⟩ : ByteArray) = S := by
  rw [text_parse h]
/-- The text of a mode isn't empty. -/
theorem text_long {n : Int} {T : ByteArray} (h0 : 0 ≤ n) (h1 : n ≤ 4095) (hT : ⟨(modeText n).toArray⟩ = T) : T.size = 4 := by
  rw [← hT]
  unfold modeText
  rw [if_pos ⟨h0, h1⟩]
  rfl
theorem parse_back (w : World) {n : Int} {T : ByteArray} (h0 : 0 ≤ n) (h1 : n ≤ 4095) (hT : ⟨(modeText n).toArray⟩ = T) : Calls Tryd.prog 9 #[.string T] w fun e w' => e = .returned (.tuple #[.int .i64 n, .int .i64 0]) ∧ Below w.heap.size w w' := by
  have hp := parse_text h0 h1
  have := parse_yes w T n.toNat (by rw [← hT]; exact hp)
  rwa [Int.toNat_of_nonneg h0] at this
theorem parse_empty (w : World) (hE : Es w) : Calls Tryd.prog 9 #[.string ⟨#[]⟩] w fun e w' => e = .returned (.tuple #[.int .i64 0, .int .i64 3]) ∧ Below w.heap.size w w' := parse_no w hE ⟨#[]⟩ rfl
set_option maxHeartbeats 2000000 in
theorem texts_kn_p (w : World) (hz : Tz w) (hE : Es w) (hW : Wd w) (n : Int) (kind : Int) (hk : kind < 0) (s S : ByteArray) (hs : s.size ≤ 9223372036854775807) (hS : s.extract 0 (min (s.size : Int) 20).toNat = S) (m : Nat) (hm : modeParse S.data.toList = some m) :
    Calls Tryd.prog 3 #[.int .i64 n, .string s, .int .i64 kind] w fun e w' => e = .returned (.bool true) ∧ Below w.heap.size w w' := by
  have H0 := Lib.hid (And.intro hz (And.intro hE hW))
  obtain ⟨T, hT⟩ : ∃ T : ByteArray, ⟨(modeText n).toArray⟩ = T := ⟨_, rfl⟩
  have HT := Lib.hid hT
  have HM := Lib.hid hm
  have HK := Lib.hid hk
  have hk0 : decide (0 ≤ kind) = false := by simp; omega
  clear hz hE hW hT hm
  go_enter Tryd.func3, Tryd.ntmps3
  go_wp2_with fail
  clear hS hs
  with_reducible refine (text_is _ H0.out.1 n T HT.out).mono ?_
  rintro e w1 ⟨rfl, h1_⟩
  have H1 := Lib.hid h1_
  clear h1_
  go_wp2_with fail
  with_reducible refine (parse_yes _ S m HM.out).mono ?_
  rintro e w2 ⟨rfl, h2_⟩
  have H2 := Lib.hid (mthen H1.out h2_)
  clear h2_
  go_wp2_with fail
  with_reducible refine (rtext_is _ n T HT.out).mono ?_
  rintro e w4 ⟨rfl, h4_⟩
  have H4 := Lib.hid (mthen H2.out (mthen (mnew _ _) h4_))
  clear h4_
  go_wp2_with fail
  with_reducible refine (word_no _ kind (.inl HK.out)).mono ?_
  rintro e w' ⟨rfl, rfl⟩
  go_wp2_with fail
  with_reducible refine (mknown_walk _ (H0.out.1.below H4.out)).mono ?_
  rintro e w5 ⟨rfl, h5_⟩
  have H5 := Lib.hid (mthen H4.out h5_)
  clear h5_
  go_wp2_with fail
  with_reducible refine (rtext_is _ (m : Int) S (text_back HM.out)).mono ?_
  rintro e w6 ⟨rfl, h6_⟩
  have H6 := Lib.hid (mthen H5.out h6_)
  clear h6_
  go_wp2_with fail
  go_ret
  exact ⟨rfl, H6.out⟩
set_option maxHeartbeats 2000000 in
theorem texts_kn_ni (w : World) (hz : Tz w) (hE : Es w) (hW : Wd w) (n : Int) (kind : Int) (hk : kind < 0) (s S : ByteArray) (hs : s.size ≤ 9223372036854775807) (hS : s.extract 0 (min (s.size : Int) 20).toNat = S) (hm : modeParse S.data.toList = none) (h0 : 0 ≤ n) (h1 : n ≤ 4095) :
    Calls Tryd.prog 3 #[.int .i64 n, .string s, .int .i64 kind] w fun e w' => e = .returned (.bool true) ∧ Below w.heap.size w w' := by
  have H0 := Lib.hid (And.intro hz (And.intro hE hW))
  obtain ⟨T, hT⟩ : ∃ T : ByteArray, ⟨(modeText n).toArray⟩ = T := ⟨_, rfl⟩
  have ht4 := text_long h0 h1 hT
  have hte : T.toList.isEmpty = false := by
    rw [← decide_eq_emptyBytes]
    exact decide_eq_false (fun h => by rw [h] at ht4; exact absurd ht4 (by decide))
  have HN := Lib.hid (And.intro h0 h1)
  have HT := Lib.hid hT
  have HM := Lib.hid hm
  have HK := Lib.hid hk
  have hk0 : decide (0 ≤ kind) = false := by simp; omega
  clear hz hE hW hT hm ht4
  go_enter Tryd.func3, Tryd.ntmps3
  go_wp2_with fail
  clear hS hs
  with_reducible refine (text_is _ H0.out.1 n T HT.out).mono ?_
  rintro e w1 ⟨rfl, h1_⟩
  have H1 := Lib.hid h1_
  clear h1_
  go_wp2_with fail
  with_reducible refine (parse_no _ (H0.out.2.1.below H1.out) S HM.out).mono ?_
  rintro e w2 ⟨rfl, h2_⟩
  have H2 := Lib.hid (mthen H1.out h2_)
  clear h2_
  go_wp2_with fail
  with_reducible refine (rtext_is _ n T HT.out).mono ?_
  rintro e w4 ⟨rfl, h4_⟩
  have H4 := Lib.hid (mthen H2.out (mthen (mnew _ _) h4_))
  clear h4_
  go_wp2_with fail
  with_reducible refine (word_no _ kind (.inl HK.out)).mono ?_
  rintro e w' ⟨rfl, rfl⟩
  go_wp2_with fail
  with_reducible refine (parse_back _ HN.out.1 HN.out.2 HT.out).mono ?_
  rintro e w5 ⟨rfl, h5_⟩
  have H5 := Lib.hid (mthen H4.out h5_)
  clear h5_
  go_wp2_with fail
  with_reducible refine (mknown_walk _ (H0.out.1.below H5.out)).mono ?_
  rintro e w6 ⟨rfl, h6_⟩
  have H6 := Lib.hid (mthen H5.out h6_)
  clear h6_
  go_wp2_with fail
  go_ret
  exact ⟨rfl, H6.out⟩
set_option maxHeartbeats 2000000 in
theorem texts_kn_no (w : World) (hz : Tz w) (hE : Es w) (hW : Wd w) (n : Int) (kind : Int) (hk : kind < 0) (s S : ByteArray) (hs : s.size ≤ 9223372036854775807) (hS : s.extract 0 (min (s.size : Int) 20).toNat = S) (hm : modeParse S.data.toList = none) (hn : ¬ (0 ≤ n ∧ n ≤ 4095)) :
    Calls Tryd.prog 3 #[.int .i64 n, .string s, .int .i64 kind] w fun e w' => e = .returned (.bool true) ∧ Below w.heap.size w w' := by
  have H0 := Lib.hid (And.intro hz (And.intro hE hW))
  have hT : (⟨(modeText n).toArray⟩ : ByteArray) = ⟨#[]⟩ := by
    unfold modeText
    rw [if_neg hn]
  have HT := Lib.hid hT
  have HM := Lib.hid hm
  have HK := Lib.hid hk
  have hk0 : decide (0 ≤ kind) = false := by simp; omega
  clear hz hE hW hT hm hn
  go_enter Tryd.func3, Tryd.ntmps3
  go_wp2_with fail
  clear hS hs
  with_reducible refine (text_is _ H0.out.1 n ⟨#[]⟩ HT.out).mono ?_
  rintro e w1 ⟨rfl, h1_⟩
  have H1 := Lib.hid h1_
  clear h1_
  go_wp2_with fail
  with_reducible refine (parse_no _ (H0.out.2.1.below H1.out) S HM.out).mono ?_
  rintro e w2 ⟨rfl, h2_⟩
  have H2 := Lib.hid (mthen H1.out h2_)
  clear h2_
  go_wp2_with fail
  with_reducible refine (rtext_is _ n ⟨#[]⟩ HT.out).mono ?_
  rintro e w4 ⟨rfl, h4_⟩
  have H4 := Lib.hid (mthen H2.out (mthen (mnew _ _) h4_))
  clear h4_
  go_wp2_with fail
  with_reducible refine (word_no _ kind (.inl HK.out)).mono ?_
  rintro e w' ⟨rfl, rfl⟩
  go_wp2_with fail
  with_reducible refine (parse_empty _ (H0.out.2.1.below H4.out)).mono ?_
  rintro e w5 ⟨rfl, h5_⟩
  have H5 := Lib.hid (mthen H4.out h5_)
  clear h5_
  go_wp2_with fail
  with_reducible refine (mknown_walk _ (H0.out.1.below H5.out)).mono ?_
  rintro e w6 ⟨rfl, h6_⟩
  have H6 := Lib.hid (mthen H5.out h6_)
  clear h6_
  go_wp2_with fail
  go_ret
  exact ⟨rfl, H6.out⟩
set_option maxHeartbeats 2000000 in
theorem texts_kp_p (w : World) (hz : Tz w) (hE : Es w) (hW : Wd w) (n : Int) (kind : Int) (hk : 4 < kind) (s S : ByteArray) (hs : s.size ≤ 9223372036854775807) (hS : s.extract 0 (min (s.size : Int) 20).toNat = S) (m : Nat) (hm : modeParse S.data.toList = some m) :
    Calls Tryd.prog 3 #[.int .i64 n, .string s, .int .i64 kind] w fun e w' => e = .returned (.bool true) ∧ Below w.heap.size w w' := by
  have H0 := Lib.hid (And.intro hz (And.intro hE hW))
  obtain ⟨T, hT⟩ : ∃ T : ByteArray, ⟨(modeText n).toArray⟩ = T := ⟨_, rfl⟩
  have HT := Lib.hid hT
  have HM := Lib.hid hm
  have HK := Lib.hid hk
  have hk5 : decide (kind < 5) = false := by simp; omega
  have hk0 : 0 ≤ kind := by omega
  clear hz hE hW hT hm
  go_enter Tryd.func3, Tryd.ntmps3
  go_wp2_with fail
  clear hS hs
  with_reducible refine (text_is _ H0.out.1 n T HT.out).mono ?_
  rintro e w1 ⟨rfl, h1_⟩
  have H1 := Lib.hid h1_
  clear h1_
  go_wp2_with fail
  with_reducible refine (parse_yes _ S m HM.out).mono ?_
  rintro e w2 ⟨rfl, h2_⟩
  have H2 := Lib.hid (mthen H1.out h2_)
  clear h2_
  go_wp2_with fail
  with_reducible refine (rtext_is _ n T HT.out).mono ?_
  rintro e w4 ⟨rfl, h4_⟩
  have H4 := Lib.hid (mthen H2.out (mthen (mnew _ _) h4_))
  clear h4_
  go_wp2_with fail
  with_reducible refine (word_no _ kind (.inr HK.out)).mono ?_
  rintro e w' ⟨rfl, rfl⟩
  go_wp2_with fail
  with_reducible refine (mknown_walk _ (H0.out.1.below H4.out)).mono ?_
  rintro e w5 ⟨rfl, h5_⟩
  have H5 := Lib.hid (mthen H4.out h5_)
  clear h5_
  go_wp2_with fail
  with_reducible refine (rtext_is _ (m : Int) S (text_back HM.out)).mono ?_
  rintro e w6 ⟨rfl, h6_⟩
  have H6 := Lib.hid (mthen H5.out h6_)
  clear h6_
  go_wp2_with fail
  go_ret
  exact ⟨rfl, H6.out⟩
set_option maxHeartbeats 2000000 in
theorem texts_kp_ni (w : World) (hz : Tz w) (hE : Es w) (hW : Wd w) (n : Int) (kind : Int) (hk : 4 < kind) (s S : ByteArray) (hs : s.size ≤ 9223372036854775807) (hS : s.extract 0 (min (s.size : Int) 20).toNat = S) (hm : modeParse S.data.toList = none) (h0 : 0 ≤ n) (h1 : n ≤ 4095) :
    Calls Tryd.prog 3 #[.int .i64 n, .string s, .int .i64 kind] w fun e w' => e = .returned (.bool true) ∧ Below w.heap.size w w' := by
  have H0 := Lib.hid (And.intro hz (And.intro hE hW))
  obtain ⟨T, hT⟩ : ∃ T : ByteArray, ⟨(modeText n).toArray⟩ = T := ⟨_, rfl⟩
  have ht4 := text_long h0 h1 hT
  have hte : T.toList.isEmpty = false := by
    rw [← decide_eq_emptyBytes]
    exact decide_eq_false (fun h => by rw [h] at ht4; exact absurd ht4 (by decide))
  have HN := Lib.hid (And.intro h0 h1)
  have HT := Lib.hid hT
  have HM := Lib.hid hm
  have HK := Lib.hid hk
  have hk5 : decide (kind < 5) = false := by simp; omega
  have hk0 : 0 ≤ kind := by omega
  clear hz hE hW hT hm ht4
  go_enter Tryd.func3, Tryd.ntmps3
  go_wp2_with fail
  clear hS hs
  with_reducible refine (text_is _ H0.out.1 n T HT.out).mono ?_
  rintro e w1 ⟨rfl, h1_⟩
  have H1 := Lib.hid h1_
  clear h1_
  go_wp2_with fail
  with_reducible refine (parse_no _ (H0.out.2.1.below H1.out) S HM.out).mono ?_
  rintro e w2 ⟨rfl, h2_⟩
  have H2 := Lib.hid (mthen H1.out h2_)
  clear h2_
  go_wp2_with fail
  with_reducible refine (rtext_is _ n T HT.out).mono ?_
  rintro e w4 ⟨rfl, h4_⟩
  have H4 := Lib.hid (mthen H2.out (mthen (mnew _ _) h4_))
  clear h4_
  go_wp2_with fail
  with_reducible refine (word_no _ kind (.inr HK.out)).mono ?_
  rintro e w' ⟨rfl, rfl⟩
  go_wp2_with fail
  with_reducible refine (parse_back _ HN.out.1 HN.out.2 HT.out).mono ?_
  rintro e w5 ⟨rfl, h5_⟩
  have H5 := Lib.hid (mthen H4.out h5_)
  clear h5_
  go_wp2_with fail
  with_reducible refine (mknown_walk _ (H0.out.1.below H5.out)).mono ?_
  rintro e w6 ⟨rfl, h6_⟩
  have H6 := Lib.hid (mthen H5.out h6_)
  clear h6_
  go_wp2_with fail
  go_ret
  exact ⟨rfl, H6.out⟩
set_option maxHeartbeats 2000000 in
theorem texts_kp_no (w : World) (hz : Tz w) (hE : Es w) (hW : Wd w) (n : Int) (kind : Int) (hk : 4 < kind) (s S : ByteArray) (hs : s.size ≤ 9223372036854775807) (hS : s.extract 0 (min (s.size : Int) 20).toNat = S) (hm : modeParse S.data.toList = none) (hn : ¬ (0 ≤ n ∧ n ≤ 4095)) :
    Calls Tryd.prog 3 #[.int .i64 n, .string s, .int .i64 kind] w fun e w' => e = .returned (.bool true) ∧ Below w.heap.size w w' := by
  have H0 := Lib.hid (And.intro hz (And.intro hE hW))
  have hT : (⟨(modeText n).toArray⟩ : ByteArray) = ⟨#[]⟩ := by
    unfold modeText
    rw [if_neg hn]
  have HT := Lib.hid hT
  have HM := Lib.hid hm
  have HK := Lib.hid hk
  have hk5 : decide (kind < 5) = false := by simp; omega
  have hk0 : 0 ≤ kind := by omega
  clear hz hE hW hT hm hn
  go_enter Tryd.func3, Tryd.ntmps3
  go_wp2_with fail
  clear hS hs
  with_reducible refine (text_is _ H0.out.1 n ⟨#[]⟩ HT.out).mono ?_
  rintro e w1 ⟨rfl, h1_⟩
  have H1 := Lib.hid h1_
  clear h1_
  go_wp2_with fail
  with_reducible refine (parse_no _ (H0.out.2.1.below H1.out) S HM.out).mono ?_
  rintro e w2 ⟨rfl, h2_⟩
  have H2 := Lib.hid (mthen H1.out h2_)
  clear h2_
  go_wp2_with fail
  with_reducible refine (rtext_is _ n ⟨#[]⟩ HT.out).mono ?_
  rintro e w4 ⟨rfl, h4_⟩
  have H4 := Lib.hid (mthen H2.out (mthen (mnew _ _) h4_))
  clear h4_
  go_wp2_with fail
  with_reducible refine (word_no _ kind (.inr HK.out)).mono ?_
  rintro e w' ⟨rfl, rfl⟩
  go_wp2_with fail
  with_reducible refine (parse_empty _ (H0.out.2.1.below H4.out)).mono ?_
  rintro e w5 ⟨rfl, h5_⟩
  have H5 := Lib.hid (mthen H4.out h5_)
  clear h5_
  go_wp2_with fail
  with_reducible refine (mknown_walk _ (H0.out.1.below H5.out)).mono ?_
  rintro e w6 ⟨rfl, h6_⟩
  have H6 := Lib.hid (mthen H5.out h6_)
  clear h6_
  go_wp2_with fail
  go_ret
  exact ⟨rfl, H6.out⟩
set_option maxHeartbeats 2000000 in
theorem texts_k0_p (w : World) (hz : Tz w) (hE : Es w) (hW : Wd w) (n : Int)  (s S : ByteArray) (hs : s.size ≤ 9223372036854775807) (hS : s.extract 0 (min (s.size : Int) 20).toNat = S) (m : Nat) (hm : modeParse S.data.toList = some m) :
    Calls Tryd.prog 3 #[.int .i64 n, .string s, .int .i64 0] w fun e w' => e = .returned (.bool true) ∧ Below w.heap.size w w' := by
  have H0 := Lib.hid (And.intro hz (And.intro hE hW))
  obtain ⟨T, hT⟩ : ∃ T : ByteArray, ⟨(modeText n).toArray⟩ = T := ⟨_, rfl⟩
  have HT := Lib.hid hT
  have HM := Lib.hid hm
  clear hz hE hW hT hm
  go_enter Tryd.func3, Tryd.ntmps3
  go_wp2_with fail
  clear hS hs
  with_reducible refine (text_is _ H0.out.1 n T HT.out).mono ?_
  rintro e w1 ⟨rfl, h1_⟩
  have H1 := Lib.hid h1_
  clear h1_
  go_wp2_with fail
  with_reducible refine (parse_yes _ S m HM.out).mono ?_
  rintro e w2 ⟨rfl, h2_⟩
  have H2 := Lib.hid (mthen H1.out h2_)
  clear h2_
  go_wp2_with fail
  with_reducible refine (rtext_is _ n T HT.out).mono ?_
  rintro e w4 ⟨rfl, h4_⟩
  have H4 := Lib.hid (mthen H2.out (mthen (mnew _ _) h4_))
  clear h4_
  go_wp2_with fail
  with_reducible refine (word0 _ (H0.out.2.2.below H4.out)).mono ?_
  rintro e w' ⟨rfl, rfl⟩
  go_wp2_with fail
  with_reducible refine (mknown_walk _ (H0.out.1.below H4.out)).mono ?_
  rintro e w5 ⟨rfl, h5_⟩
  have H5 := Lib.hid (mthen H4.out h5_)
  clear h5_
  go_wp2_with fail
  with_reducible refine (rtext_is _ (m : Int) S (text_back HM.out)).mono ?_
  rintro e w6 ⟨rfl, h6_⟩
  have H6 := Lib.hid (mthen H5.out h6_)
  clear h6_
  go_wp2_with fail
  go_ret
  exact ⟨rfl, H6.out⟩
set_option maxHeartbeats 2000000 in
theorem texts_k0_ni (w : World) (hz : Tz w) (hE : Es w) (hW : Wd w) (n : Int)  (s S : ByteArray) (hs : s.size ≤ 9223372036854775807) (hS : s.extract 0 (min (s.size : Int) 20).toNat = S) (hm : modeParse S.data.toList = none) (h0 : 0 ≤ n) (h1 : n ≤ 4095) :
    Calls Tryd.prog 3 #[.int .i64 n, .string s, .int .i64 0] w fun e w' => e = .returned (.bool true) ∧ Below w.heap.size w w' := by
  have H0 := Lib.hid (And.intro hz (And.intro hE hW))
  obtain ⟨T, hT⟩ : ∃ T : ByteArray, ⟨(modeText n).toArray⟩ = T := ⟨_, rfl⟩
  have ht4 := text_long h0 h1 hT
  have hte : T.toList.isEmpty = false := by
    rw [← decide_eq_emptyBytes]
    exact decide_eq_false (fun h => by rw [h] at ht4; exact absurd ht4 (by decide))
  have HN := Lib.hid (And.intro h0 h1)
  have HT := Lib.hid hT
  have HM := Lib.hid hm
  clear hz hE hW hT hm ht4
  go_enter Tryd.func3, Tryd.ntmps3
  go_wp2_with fail
  clear hS hs
  with_reducible refine (text_is _ H0.out.1 n T HT.out).mono ?_
  rintro e w1 ⟨rfl, h1_⟩
  have H1 := Lib.hid h1_
  clear h1_
  go_wp2_with fail
  with_reducible refine (parse_no _ (H0.out.2.1.below H1.out) S HM.out).mono ?_
  rintro e w2 ⟨rfl, h2_⟩
  have H2 := Lib.hid (mthen H1.out h2_)
  clear h2_
  go_wp2_with fail
  with_reducible refine (rtext_is _ n T HT.out).mono ?_
  rintro e w4 ⟨rfl, h4_⟩
  have H4 := Lib.hid (mthen H2.out (mthen (mnew _ _) h4_))
  clear h4_
  go_wp2_with fail
  with_reducible refine (word0 _ (H0.out.2.2.below H4.out)).mono ?_
  rintro e w' ⟨rfl, rfl⟩
  go_wp2_with fail
  with_reducible refine (parse_back _ HN.out.1 HN.out.2 HT.out).mono ?_
  rintro e w5 ⟨rfl, h5_⟩
  have H5 := Lib.hid (mthen H4.out h5_)
  clear h5_
  go_wp2_with fail
  with_reducible refine (mknown_walk _ (H0.out.1.below H5.out)).mono ?_
  rintro e w6 ⟨rfl, h6_⟩
  have H6 := Lib.hid (mthen H5.out h6_)
  clear h6_
  go_wp2_with fail
  go_ret
  exact ⟨rfl, H6.out⟩
set_option maxHeartbeats 2000000 in
theorem texts_k0_no (w : World) (hz : Tz w) (hE : Es w) (hW : Wd w) (n : Int)  (s S : ByteArray) (hs : s.size ≤ 9223372036854775807) (hS : s.extract 0 (min (s.size : Int) 20).toNat = S) (hm : modeParse S.data.toList = none) (hn : ¬ (0 ≤ n ∧ n ≤ 4095)) :
    Calls Tryd.prog 3 #[.int .i64 n, .string s, .int .i64 0] w fun e w' => e = .returned (.bool true) ∧ Below w.heap.size w w' := by
  have H0 := Lib.hid (And.intro hz (And.intro hE hW))
  have hT : (⟨(modeText n).toArray⟩ : ByteArray) = ⟨#[]⟩ := by
    unfold modeText
    rw [if_neg hn]
  have HT := Lib.hid hT
  have HM := Lib.hid hm
  clear hz hE hW hT hm hn
  go_enter Tryd.func3, Tryd.ntmps3
  go_wp2_with fail
  clear hS hs
  with_reducible refine (text_is _ H0.out.1 n ⟨#[]⟩ HT.out).mono ?_
  rintro e w1 ⟨rfl, h1_⟩
  have H1 := Lib.hid h1_
  clear h1_
  go_wp2_with fail
  with_reducible refine (parse_no _ (H0.out.2.1.below H1.out) S HM.out).mono ?_
  rintro e w2 ⟨rfl, h2_⟩
  have H2 := Lib.hid (mthen H1.out h2_)
  clear h2_
  go_wp2_with fail
  with_reducible refine (rtext_is _ n ⟨#[]⟩ HT.out).mono ?_
  rintro e w4 ⟨rfl, h4_⟩
  have H4 := Lib.hid (mthen H2.out (mthen (mnew _ _) h4_))
  clear h4_
  go_wp2_with fail
  with_reducible refine (word0 _ (H0.out.2.2.below H4.out)).mono ?_
  rintro e w' ⟨rfl, rfl⟩
  go_wp2_with fail
  with_reducible refine (parse_empty _ (H0.out.2.1.below H4.out)).mono ?_
  rintro e w5 ⟨rfl, h5_⟩
  have H5 := Lib.hid (mthen H4.out h5_)
  clear h5_
  go_wp2_with fail
  with_reducible refine (mknown_walk _ (H0.out.1.below H5.out)).mono ?_
  rintro e w6 ⟨rfl, h6_⟩
  have H6 := Lib.hid (mthen H5.out h6_)
  clear h6_
  go_wp2_with fail
  go_ret
  exact ⟨rfl, H6.out⟩
set_option maxHeartbeats 2000000 in
theorem texts_k1_p (w : World) (hz : Tz w) (hE : Es w) (hW : Wd w) (n : Int)  (s S : ByteArray) (hs : s.size ≤ 9223372036854775807) (hS : s.extract 0 (min (s.size : Int) 20).toNat = S) (m : Nat) (hm : modeParse S.data.toList = some m) :
    Calls Tryd.prog 3 #[.int .i64 n, .string s, .int .i64 1] w fun e w' => e = .returned (.bool true) ∧ Below w.heap.size w w' := by
  have H0 := Lib.hid (And.intro hz (And.intro hE hW))
  obtain ⟨T, hT⟩ : ∃ T : ByteArray, ⟨(modeText n).toArray⟩ = T := ⟨_, rfl⟩
  have HT := Lib.hid hT
  have HM := Lib.hid hm
  clear hz hE hW hT hm
  go_enter Tryd.func3, Tryd.ntmps3
  go_wp2_with fail
  clear hS hs
  with_reducible refine (text_is _ H0.out.1 n T HT.out).mono ?_
  rintro e w1 ⟨rfl, h1_⟩
  have H1 := Lib.hid h1_
  clear h1_
  go_wp2_with fail
  with_reducible refine (parse_yes _ S m HM.out).mono ?_
  rintro e w2 ⟨rfl, h2_⟩
  have H2 := Lib.hid (mthen H1.out h2_)
  clear h2_
  go_wp2_with fail
  with_reducible refine (rtext_is _ n T HT.out).mono ?_
  rintro e w4 ⟨rfl, h4_⟩
  have H4 := Lib.hid (mthen H2.out (mthen (mnew _ _) h4_))
  clear h4_
  go_wp2_with fail
  with_reducible refine (word1 _ (H0.out.2.2.below H4.out)).mono ?_
  rintro e w' ⟨rfl, rfl⟩
  go_wp2_with fail
  with_reducible refine (mknown_walk _ (H0.out.1.below H4.out)).mono ?_
  rintro e w5 ⟨rfl, h5_⟩
  have H5 := Lib.hid (mthen H4.out h5_)
  clear h5_
  go_wp2_with fail
  with_reducible refine (rtext_is _ (m : Int) S (text_back HM.out)).mono ?_
  rintro e w6 ⟨rfl, h6_⟩
  have H6 := Lib.hid (mthen H5.out h6_)
  clear h6_
  go_wp2_with fail
  go_ret
  exact ⟨rfl, H6.out⟩
set_option maxHeartbeats 2000000 in
theorem texts_k1_ni (w : World) (hz : Tz w) (hE : Es w) (hW : Wd w) (n : Int)  (s S : ByteArray) (hs : s.size ≤ 9223372036854775807) (hS : s.extract 0 (min (s.size : Int) 20).toNat = S) (hm : modeParse S.data.toList = none) (h0 : 0 ≤ n) (h1 : n ≤ 4095) :
    Calls Tryd.prog 3 #[.int .i64 n, .string s, .int .i64 1] w fun e w' => e = .returned (.bool true) ∧ Below w.heap.size w w' := by
  have H0 := Lib.hid (And.intro hz (And.intro hE hW))
  obtain ⟨T, hT⟩ : ∃ T : ByteArray, ⟨(modeText n).toArray⟩ = T := ⟨_, rfl⟩
  have ht4 := text_long h0 h1 hT
  have hte : T.toList.isEmpty = false := by
    rw [← decide_eq_emptyBytes]
    exact decide_eq_false (fun h => by rw [h] at ht4; exact absurd ht4 (by decide))
  have HN := Lib.hid (And.intro h0 h1)
  have HT := Lib.hid hT
  have HM := Lib.hid hm
  clear hz hE hW hT hm ht4
  go_enter Tryd.func3, Tryd.ntmps3
  go_wp2_with fail
  clear hS hs
  with_reducible refine (text_is _ H0.out.1 n T HT.out).mono ?_
  rintro e w1 ⟨rfl, h1_⟩
  have H1 := Lib.hid h1_
  clear h1_
  go_wp2_with fail
  with_reducible refine (parse_no _ (H0.out.2.1.below H1.out) S HM.out).mono ?_
  rintro e w2 ⟨rfl, h2_⟩
  have H2 := Lib.hid (mthen H1.out h2_)
  clear h2_
  go_wp2_with fail
  with_reducible refine (rtext_is _ n T HT.out).mono ?_
  rintro e w4 ⟨rfl, h4_⟩
  have H4 := Lib.hid (mthen H2.out (mthen (mnew _ _) h4_))
  clear h4_
  go_wp2_with fail
  with_reducible refine (word1 _ (H0.out.2.2.below H4.out)).mono ?_
  rintro e w' ⟨rfl, rfl⟩
  go_wp2_with fail
  with_reducible refine (parse_back _ HN.out.1 HN.out.2 HT.out).mono ?_
  rintro e w5 ⟨rfl, h5_⟩
  have H5 := Lib.hid (mthen H4.out h5_)
  clear h5_
  go_wp2_with fail
  with_reducible refine (mknown_walk _ (H0.out.1.below H5.out)).mono ?_
  rintro e w6 ⟨rfl, h6_⟩
  have H6 := Lib.hid (mthen H5.out h6_)
  clear h6_
  go_wp2_with fail
  go_ret
  exact ⟨rfl, H6.out⟩
set_option maxHeartbeats 2000000 in
theorem texts_k1_no (w : World) (hz : Tz w) (hE : Es w) (hW : Wd w) (n : Int)  (s S : ByteArray) (hs : s.size ≤ 9223372036854775807) (hS : s.extract 0 (min (s.size : Int) 20).toNat = S) (hm : modeParse S.data.toList = none) (hn : ¬ (0 ≤ n ∧ n ≤ 4095)) :
    Calls Tryd.prog 3 #[.int .i64 n, .string s, .int .i64 1] w fun e w' => e = .returned (.bool true) ∧ Below w.heap.size w w' := by
  have H0 := Lib.hid (And.intro hz (And.intro hE hW))
  have hT : (⟨(modeText n).toArray⟩ : ByteArray) = ⟨#[]⟩ := by
    unfold modeText
    rw [if_neg hn]
  have HT := Lib.hid hT
  have HM := Lib.hid hm
  clear hz hE hW hT hm hn
  go_enter Tryd.func3, Tryd.ntmps3
  go_wp2_with fail
  clear hS hs
  with_reducible refine (text_is _ H0.out.1 n ⟨#[]⟩ HT.out).mono ?_
  rintro e w1 ⟨rfl, h1_⟩
  have H1 := Lib.hid h1_
  clear h1_
  go_wp2_with fail
  with_reducible refine (parse_no _ (H0.out.2.1.below H1.out) S HM.out).mono ?_
  rintro e w2 ⟨rfl, h2_⟩
  have H2 := Lib.hid (mthen H1.out h2_)
  clear h2_
  go_wp2_with fail
  with_reducible refine (rtext_is _ n ⟨#[]⟩ HT.out).mono ?_
  rintro e w4 ⟨rfl, h4_⟩
  have H4 := Lib.hid (mthen H2.out (mthen (mnew _ _) h4_))
  clear h4_
  go_wp2_with fail
  with_reducible refine (word1 _ (H0.out.2.2.below H4.out)).mono ?_
  rintro e w' ⟨rfl, rfl⟩
  go_wp2_with fail
  with_reducible refine (parse_empty _ (H0.out.2.1.below H4.out)).mono ?_
  rintro e w5 ⟨rfl, h5_⟩
  have H5 := Lib.hid (mthen H4.out h5_)
  clear h5_
  go_wp2_with fail
  with_reducible refine (mknown_walk _ (H0.out.1.below H5.out)).mono ?_
  rintro e w6 ⟨rfl, h6_⟩
  have H6 := Lib.hid (mthen H5.out h6_)
  clear h6_
  go_wp2_with fail
  go_ret
  exact ⟨rfl, H6.out⟩
set_option maxHeartbeats 2000000 in
theorem texts_k2_p (w : World) (hz : Tz w) (hE : Es w) (hW : Wd w) (n : Int)  (s S : ByteArray) (hs : s.size ≤ 9223372036854775807) (hS : s.extract 0 (min (s.size : Int) 20).toNat = S) (m : Nat) (hm : modeParse S.data.toList = some m) :
    Calls Tryd.prog 3 #[.int .i64 n, .string s, .int .i64 2] w fun e w' => e = .returned (.bool true) ∧ Below w.heap.size w w' := by
  have H0 := Lib.hid (And.intro hz (And.intro hE hW))
  obtain ⟨T, hT⟩ : ∃ T : ByteArray, ⟨(modeText n).toArray⟩ = T := ⟨_, rfl⟩
  have HT := Lib.hid hT
  have HM := Lib.hid hm
  clear hz hE hW hT hm
  go_enter Tryd.func3, Tryd.ntmps3
  go_wp2_with fail
  clear hS hs
  with_reducible refine (text_is _ H0.out.1 n T HT.out).mono ?_
  rintro e w1 ⟨rfl, h1_⟩
  have H1 := Lib.hid h1_
  clear h1_
  go_wp2_with fail
  with_reducible refine (parse_yes _ S m HM.out).mono ?_
  rintro e w2 ⟨rfl, h2_⟩
  have H2 := Lib.hid (mthen H1.out h2_)
  clear h2_
  go_wp2_with fail
  with_reducible refine (rtext_is _ n T HT.out).mono ?_
  rintro e w4 ⟨rfl, h4_⟩
  have H4 := Lib.hid (mthen H2.out (mthen (mnew _ _) h4_))
  clear h4_
  go_wp2_with fail
  with_reducible refine (word2 _ (H0.out.2.2.below H4.out)).mono ?_
  rintro e w' ⟨rfl, rfl⟩
  go_wp2_with fail
  with_reducible refine (mknown_walk _ (H0.out.1.below H4.out)).mono ?_
  rintro e w5 ⟨rfl, h5_⟩
  have H5 := Lib.hid (mthen H4.out h5_)
  clear h5_
  go_wp2_with fail
  with_reducible refine (rtext_is _ (m : Int) S (text_back HM.out)).mono ?_
  rintro e w6 ⟨rfl, h6_⟩
  have H6 := Lib.hid (mthen H5.out h6_)
  clear h6_
  go_wp2_with fail
  go_ret
  exact ⟨rfl, H6.out⟩
set_option maxHeartbeats 2000000 in
theorem texts_k2_ni (w : World) (hz : Tz w) (hE : Es w) (hW : Wd w) (n : Int)  (s S : ByteArray) (hs : s.size ≤ 9223372036854775807) (hS : s.extract 0 (min (s.size : Int) 20).toNat = S) (hm : modeParse S.data.toList = none) (h0 : 0 ≤ n) (h1 : n ≤ 4095) :
    Calls Tryd.prog 3 #[.int .i64 n, .string s, .int .i64 2] w fun e w' => e = .returned (.bool true) ∧ Below w.heap.size w w' := by
  have H0 := Lib.hid (And.intro hz (And.intro hE hW))
  obtain ⟨T, hT⟩ : ∃ T : ByteArray, ⟨(modeText n).toArray⟩ = T := ⟨_, rfl⟩
  have ht4 := text_long h0 h1 hT
  have hte : T.toList.isEmpty = false := by
    rw [← decide_eq_emptyBytes]
    exact decide_eq_false (fun h => by rw [h] at ht4; exact absurd ht4 (by decide))
  have HN := Lib.hid (And.intro h0 h1)
  have HT := Lib.hid hT
  have HM := Lib.hid hm
  clear hz hE hW hT hm ht4
  go_enter Tryd.func3, Tryd.ntmps3
  go_wp2_with fail
  clear hS hs
  with_reducible refine (text_is _ H0.out.1 n T HT.out).mono ?_
  rintro e w1 ⟨rfl, h1_⟩
  have H1 := Lib.hid h1_
  clear h1_
  go_wp2_with fail
  with_reducible refine (parse_no _ (H0.out.2.1.below H1.out) S HM.out).mono ?_
  rintro e w2 ⟨rfl, h2_⟩
  have H2 := Lib.hid (mthen H1.out h2_)
  clear h2_
  go_wp2_with fail
  with_reducible refine (rtext_is _ n T HT.out).mono ?_
  rintro e w4 ⟨rfl, h4_⟩
  have H4 := Lib.hid (mthen H2.out (mthen (mnew _ _) h4_))
  clear h4_
  go_wp2_with fail
  with_reducible refine (word2 _ (H0.out.2.2.below H4.out)).mono ?_
  rintro e w' ⟨rfl, rfl⟩
  go_wp2_with fail
  with_reducible refine (parse_back _ HN.out.1 HN.out.2 HT.out).mono ?_
  rintro e w5 ⟨rfl, h5_⟩
  have H5 := Lib.hid (mthen H4.out h5_)
  clear h5_
  go_wp2_with fail
  with_reducible refine (mknown_walk _ (H0.out.1.below H5.out)).mono ?_
  rintro e w6 ⟨rfl, h6_⟩
  have H6 := Lib.hid (mthen H5.out h6_)
  clear h6_
  go_wp2_with fail
  go_ret
  exact ⟨rfl, H6.out⟩
set_option maxHeartbeats 2000000 in
theorem texts_k2_no (w : World) (hz : Tz w) (hE : Es w) (hW : Wd w) (n : Int)  (s S : ByteArray) (hs : s.size ≤ 9223372036854775807) (hS : s.extract 0 (min (s.size : Int) 20).toNat = S) (hm : modeParse S.data.toList = none) (hn : ¬ (0 ≤ n ∧ n ≤ 4095)) :
    Calls Tryd.prog 3 #[.int .i64 n, .string s, .int .i64 2] w fun e w' => e = .returned (.bool true) ∧ Below w.heap.size w w' := by
  have H0 := Lib.hid (And.intro hz (And.intro hE hW))
  have hT : (⟨(modeText n).toArray⟩ : ByteArray) = ⟨#[]⟩ := by
    unfold modeText
    rw [if_neg hn]
  have HT := Lib.hid hT
  have HM := Lib.hid hm
  clear hz hE hW hT hm hn
  go_enter Tryd.func3, Tryd.ntmps3
  go_wp2_with fail
  clear hS hs
  with_reducible refine (text_is _ H0.out.1 n ⟨#[]⟩ HT.out).mono ?_
  rintro e w1 ⟨rfl, h1_⟩
  have H1 := Lib.hid h1_
  clear h1_
  go_wp2_with fail
  with_reducible refine (parse_no _ (H0.out.2.1.below H1.out) S HM.out).mono ?_
  rintro e w2 ⟨rfl, h2_⟩
  have H2 := Lib.hid (mthen H1.out h2_)
  clear h2_
  go_wp2_with fail
  with_reducible refine (rtext_is _ n ⟨#[]⟩ HT.out).mono ?_
  rintro e w4 ⟨rfl, h4_⟩
  have H4 := Lib.hid (mthen H2.out (mthen (mnew _ _) h4_))
  clear h4_
  go_wp2_with fail
  with_reducible refine (word2 _ (H0.out.2.2.below H4.out)).mono ?_
  rintro e w' ⟨rfl, rfl⟩
  go_wp2_with fail
  with_reducible refine (parse_empty _ (H0.out.2.1.below H4.out)).mono ?_
  rintro e w5 ⟨rfl, h5_⟩
  have H5 := Lib.hid (mthen H4.out h5_)
  clear h5_
  go_wp2_with fail
  with_reducible refine (mknown_walk _ (H0.out.1.below H5.out)).mono ?_
  rintro e w6 ⟨rfl, h6_⟩
  have H6 := Lib.hid (mthen H5.out h6_)
  clear h6_
  go_wp2_with fail
  go_ret
  exact ⟨rfl, H6.out⟩
set_option maxHeartbeats 2000000 in
theorem texts_k3_p (w : World) (hz : Tz w) (hE : Es w) (hW : Wd w) (n : Int)  (s S : ByteArray) (hs : s.size ≤ 9223372036854775807) (hS : s.extract 0 (min (s.size : Int) 20).toNat = S) (m : Nat) (hm : modeParse S.data.toList = some m) :
    Calls Tryd.prog 3 #[.int .i64 n, .string s, .int .i64 3] w fun e w' => e = .returned (.bool true) ∧ Below w.heap.size w w' := by
  have H0 := Lib.hid (And.intro hz (And.intro hE hW))
  obtain ⟨T, hT⟩ : ∃ T : ByteArray, ⟨(modeText n).toArray⟩ = T := ⟨_, rfl⟩
  have HT := Lib.hid hT
  have HM := Lib.hid hm
  clear hz hE hW hT hm
  go_enter Tryd.func3, Tryd.ntmps3
  go_wp2_with fail
  clear hS hs
  with_reducible refine (text_is _ H0.out.1 n T HT.out).mono ?_
  rintro e w1 ⟨rfl, h1_⟩
  have H1 := Lib.hid h1_
  clear h1_
  go_wp2_with fail
  with_reducible refine (parse_yes _ S m HM.out).mono ?_
  rintro e w2 ⟨rfl, h2_⟩
  have H2 := Lib.hid (mthen H1.out h2_)
  clear h2_
  go_wp2_with fail
  with_reducible refine (rtext_is _ n T HT.out).mono ?_
  rintro e w4 ⟨rfl, h4_⟩
  have H4 := Lib.hid (mthen H2.out (mthen (mnew _ _) h4_))
  clear h4_
  go_wp2_with fail
  with_reducible refine (word3 _ (H0.out.2.2.below H4.out)).mono ?_
  rintro e w' ⟨rfl, rfl⟩
  go_wp2_with fail
  with_reducible refine (mknown_walk _ (H0.out.1.below H4.out)).mono ?_
  rintro e w5 ⟨rfl, h5_⟩
  have H5 := Lib.hid (mthen H4.out h5_)
  clear h5_
  go_wp2_with fail
  with_reducible refine (rtext_is _ (m : Int) S (text_back HM.out)).mono ?_
  rintro e w6 ⟨rfl, h6_⟩
  have H6 := Lib.hid (mthen H5.out h6_)
  clear h6_
  go_wp2_with fail
  go_ret
  exact ⟨rfl, H6.out⟩
set_option maxHeartbeats 2000000 in
theorem texts_k3_ni (w : World) (hz : Tz w) (hE : Es w) (hW : Wd w) (n : Int)  (s S : ByteArray) (hs : s.size ≤ 9223372036854775807) (hS : s.extract 0 (min (s.size : Int) 20).toNat = S) (hm : modeParse S.data.toList = none) (h0 : 0 ≤ n) (h1 : n ≤ 4095) :
    Calls Tryd.prog 3 #[.int .i64 n, .string s, .int .i64 3] w fun e w' => e = .returned (.bool true) ∧ Below w.heap.size w w' := by
  have H0 := Lib.hid (And.intro hz (And.intro hE hW))
  obtain ⟨T, hT⟩ : ∃ T : ByteArray, ⟨(modeText n).toArray⟩ = T := ⟨_, rfl⟩
  have ht4 := text_long h0 h1 hT
  have hte : T.toList.isEmpty = false := by
    rw [← decide_eq_emptyBytes]
    exact decide_eq_false (fun h => by rw [h] at ht4; exact absurd ht4 (by decide))
  have HN := Lib.hid (And.intro h0 h1)
  have HT := Lib.hid hT
  have HM := Lib.hid hm
  clear hz hE hW hT hm ht4
  go_enter Tryd.func3, Tryd.ntmps3
  go_wp2_with fail
  clear hS hs
  with_reducible refine (text_is _ H0.out.1 n T HT.out).mono ?_
  rintro e w1 ⟨rfl, h1_⟩
  have H1 := Lib.hid h1_
  clear h1_
  go_wp2_with fail
  with_reducible refine (parse_no _ (H0.out.2.1.below H1.out) S HM.out).mono ?_
  rintro e w2 ⟨rfl, h2_⟩
  have H2 := Lib.hid (mthen H1.out h2_)
  clear h2_
  go_wp2_with fail
  with_reducible refine (rtext_is _ n T HT.out).mono ?_
  rintro e w4 ⟨rfl, h4_⟩
  have H4 := Lib.hid (mthen H2.out (mthen (mnew _ _) h4_))
  clear h4_
  go_wp2_with fail
  with_reducible refine (word3 _ (H0.out.2.2.below H4.out)).mono ?_
  rintro e w' ⟨rfl, rfl⟩
  go_wp2_with fail
  with_reducible refine (parse_back _ HN.out.1 HN.out.2 HT.out).mono ?_
  rintro e w5 ⟨rfl, h5_⟩
  have H5 := Lib.hid (mthen H4.out h5_)
  clear h5_
  go_wp2_with fail
  with_reducible refine (mknown_walk _ (H0.out.1.below H5.out)).mono ?_
  rintro e w6 ⟨rfl, h6_⟩
  have H6 := Lib.hid (mthen H5.out h6_)
  clear h6_
  go_wp2_with fail
  go_ret
  exact ⟨rfl, H6.out⟩
set_option maxHeartbeats 2000000 in
theorem texts_k3_no (w : World) (hz : Tz w) (hE : Es w) (hW : Wd w) (n : Int)  (s S : ByteArray) (hs : s.size ≤ 9223372036854775807) (hS : s.extract 0 (min (s.size : Int) 20).toNat = S) (hm : modeParse S.data.toList = none) (hn : ¬ (0 ≤ n ∧ n ≤ 4095)) :
    Calls Tryd.prog 3 #[.int .i64 n, .string s, .int .i64 3] w fun e w' => e = .returned (.bool true) ∧ Below w.heap.size w w' := by
  have H0 := Lib.hid (And.intro hz (And.intro hE hW))
  have hT : (⟨(modeText n).toArray⟩ : ByteArray) = ⟨#[]⟩ := by
    unfold modeText
    rw [if_neg hn]
  have HT := Lib.hid hT
  have HM := Lib.hid hm
  clear hz hE hW hT hm hn
  go_enter Tryd.func3, Tryd.ntmps3
  go_wp2_with fail
  clear hS hs
  with_reducible refine (text_is _ H0.out.1 n ⟨#[]⟩ HT.out).mono ?_
  rintro e w1 ⟨rfl, h1_⟩
  have H1 := Lib.hid h1_
  clear h1_
  go_wp2_with fail
  with_reducible refine (parse_no _ (H0.out.2.1.below H1.out) S HM.out).mono ?_
  rintro e w2 ⟨rfl, h2_⟩
  have H2 := Lib.hid (mthen H1.out h2_)
  clear h2_
  go_wp2_with fail
  with_reducible refine (rtext_is _ n ⟨#[]⟩ HT.out).mono ?_
  rintro e w4 ⟨rfl, h4_⟩
  have H4 := Lib.hid (mthen H2.out (mthen (mnew _ _) h4_))
  clear h4_
  go_wp2_with fail
  with_reducible refine (word3 _ (H0.out.2.2.below H4.out)).mono ?_
  rintro e w' ⟨rfl, rfl⟩
  go_wp2_with fail
  with_reducible refine (parse_empty _ (H0.out.2.1.below H4.out)).mono ?_
  rintro e w5 ⟨rfl, h5_⟩
  have H5 := Lib.hid (mthen H4.out h5_)
  clear h5_
  go_wp2_with fail
  with_reducible refine (mknown_walk _ (H0.out.1.below H5.out)).mono ?_
  rintro e w6 ⟨rfl, h6_⟩
  have H6 := Lib.hid (mthen H5.out h6_)
  clear h6_
  go_wp2_with fail
  go_ret
  exact ⟨rfl, H6.out⟩
set_option maxHeartbeats 2000000 in
theorem texts_k4_p (w : World) (hz : Tz w) (hE : Es w) (hW : Wd w) (n : Int)  (s S : ByteArray) (hs : s.size ≤ 9223372036854775807) (hS : s.extract 0 (min (s.size : Int) 20).toNat = S) (m : Nat) (hm : modeParse S.data.toList = some m) :
    Calls Tryd.prog 3 #[.int .i64 n, .string s, .int .i64 4] w fun e w' => e = .returned (.bool true) ∧ Below w.heap.size w w' := by
  have H0 := Lib.hid (And.intro hz (And.intro hE hW))
  obtain ⟨T, hT⟩ : ∃ T : ByteArray, ⟨(modeText n).toArray⟩ = T := ⟨_, rfl⟩
  have HT := Lib.hid hT
  have HM := Lib.hid hm
  clear hz hE hW hT hm
  go_enter Tryd.func3, Tryd.ntmps3
  go_wp2_with fail
  clear hS hs
  with_reducible refine (text_is _ H0.out.1 n T HT.out).mono ?_
  rintro e w1 ⟨rfl, h1_⟩
  have H1 := Lib.hid h1_
  clear h1_
  go_wp2_with fail
  with_reducible refine (parse_yes _ S m HM.out).mono ?_
  rintro e w2 ⟨rfl, h2_⟩
  have H2 := Lib.hid (mthen H1.out h2_)
  clear h2_
  go_wp2_with fail
  with_reducible refine (rtext_is _ n T HT.out).mono ?_
  rintro e w4 ⟨rfl, h4_⟩
  have H4 := Lib.hid (mthen H2.out (mthen (mnew _ _) h4_))
  clear h4_
  go_wp2_with fail
  with_reducible refine (word4 _ (H0.out.2.2.below H4.out)).mono ?_
  rintro e w' ⟨rfl, rfl⟩
  go_wp2_with fail
  with_reducible refine (mknown_walk _ (H0.out.1.below H4.out)).mono ?_
  rintro e w5 ⟨rfl, h5_⟩
  have H5 := Lib.hid (mthen H4.out h5_)
  clear h5_
  go_wp2_with fail
  with_reducible refine (rtext_is _ (m : Int) S (text_back HM.out)).mono ?_
  rintro e w6 ⟨rfl, h6_⟩
  have H6 := Lib.hid (mthen H5.out h6_)
  clear h6_
  go_wp2_with fail
  go_ret
  exact ⟨rfl, H6.out⟩
set_option maxHeartbeats 2000000 in
theorem texts_k4_ni (w : World) (hz : Tz w) (hE : Es w) (hW : Wd w) (n : Int)  (s S : ByteArray) (hs : s.size ≤ 9223372036854775807) (hS : s.extract 0 (min (s.size : Int) 20).toNat = S) (hm : modeParse S.data.toList = none) (h0 : 0 ≤ n) (h1 : n ≤ 4095) :
    Calls Tryd.prog 3 #[.int .i64 n, .string s, .int .i64 4] w fun e w' => e = .returned (.bool true) ∧ Below w.heap.size w w' := by
  have H0 := Lib.hid (And.intro hz (And.intro hE hW))
  obtain ⟨T, hT⟩ : ∃ T : ByteArray, ⟨(modeText n).toArray⟩ = T := ⟨_, rfl⟩
  have ht4 := text_long h0 h1 hT
  have hte : T.toList.isEmpty = false := by
    rw [← decide_eq_emptyBytes]
    exact decide_eq_false (fun h => by rw [h] at ht4; exact absurd ht4 (by decide))
  have HN := Lib.hid (And.intro h0 h1)
  have HT := Lib.hid hT
  have HM := Lib.hid hm
  clear hz hE hW hT hm ht4
  go_enter Tryd.func3, Tryd.ntmps3
  go_wp2_with fail
  clear hS hs
  with_reducible refine (text_is _ H0.out.1 n T HT.out).mono ?_
  rintro e w1 ⟨rfl, h1_⟩
  have H1 := Lib.hid h1_
  clear h1_
  go_wp2_with fail
  with_reducible refine (parse_no _ (H0.out.2.1.below H1.out) S HM.out).mono ?_
  rintro e w2 ⟨rfl, h2_⟩
  have H2 := Lib.hid (mthen H1.out h2_)
  clear h2_
  go_wp2_with fail
  with_reducible refine (rtext_is _ n T HT.out).mono ?_
  rintro e w4 ⟨rfl, h4_⟩
  have H4 := Lib.hid (mthen H2.out (mthen (mnew _ _) h4_))
  clear h4_
  go_wp2_with fail
  with_reducible refine (word4 _ (H0.out.2.2.below H4.out)).mono ?_
  rintro e w' ⟨rfl, rfl⟩
  go_wp2_with fail
  with_reducible refine (parse_back _ HN.out.1 HN.out.2 HT.out).mono ?_
  rintro e w5 ⟨rfl, h5_⟩
  have H5 := Lib.hid (mthen H4.out h5_)
  clear h5_
  go_wp2_with fail
  with_reducible refine (mknown_walk _ (H0.out.1.below H5.out)).mono ?_
  rintro e w6 ⟨rfl, h6_⟩
  have H6 := Lib.hid (mthen H5.out h6_)
  clear h6_
  go_wp2_with fail
  go_ret
  exact ⟨rfl, H6.out⟩
set_option maxHeartbeats 2000000 in
theorem texts_k4_no (w : World) (hz : Tz w) (hE : Es w) (hW : Wd w) (n : Int)  (s S : ByteArray) (hs : s.size ≤ 9223372036854775807) (hS : s.extract 0 (min (s.size : Int) 20).toNat = S) (hm : modeParse S.data.toList = none) (hn : ¬ (0 ≤ n ∧ n ≤ 4095)) :
    Calls Tryd.prog 3 #[.int .i64 n, .string s, .int .i64 4] w fun e w' => e = .returned (.bool true) ∧ Below w.heap.size w w' := by
  have H0 := Lib.hid (And.intro hz (And.intro hE hW))
  have hT : (⟨(modeText n).toArray⟩ : ByteArray) = ⟨#[]⟩ := by
    unfold modeText
    rw [if_neg hn]
  have HT := Lib.hid hT
  have HM := Lib.hid hm
  clear hz hE hW hT hm hn
  go_enter Tryd.func3, Tryd.ntmps3
  go_wp2_with fail
  clear hS hs
  with_reducible refine (text_is _ H0.out.1 n ⟨#[]⟩ HT.out).mono ?_
  rintro e w1 ⟨rfl, h1_⟩
  have H1 := Lib.hid h1_
  clear h1_
  go_wp2_with fail
  with_reducible refine (parse_no _ (H0.out.2.1.below H1.out) S HM.out).mono ?_
  rintro e w2 ⟨rfl, h2_⟩
  have H2 := Lib.hid (mthen H1.out h2_)
  clear h2_
  go_wp2_with fail
  with_reducible refine (rtext_is _ n ⟨#[]⟩ HT.out).mono ?_
  rintro e w4 ⟨rfl, h4_⟩
  have H4 := Lib.hid (mthen H2.out (mthen (mnew _ _) h4_))
  clear h4_
  go_wp2_with fail
  with_reducible refine (word4 _ (H0.out.2.2.below H4.out)).mono ?_
  rintro e w' ⟨rfl, rfl⟩
  go_wp2_with fail
  with_reducible refine (parse_empty _ (H0.out.2.1.below H4.out)).mono ?_
  rintro e w5 ⟨rfl, h5_⟩
  have H5 := Lib.hid (mthen H4.out h5_)
  clear h5_
  go_wp2_with fail
  with_reducible refine (mknown_walk _ (H0.out.1.below H5.out)).mono ?_
  rintro e w6 ⟨rfl, h6_⟩
  have H6 := Lib.hid (mthen H5.out h6_)
  clear h6_
  go_wp2_with fail
  go_ret
  exact ⟨rfl, H6.out⟩
theorem mtexts_walk (w : World) (hz : Tz w) (hE : Es w) (hW : Wd w) (n kind : Int) (s : ByteArray) (hs : s.size ≤ 9223372036854775807) :
    Calls Tryd.prog 3 #[.int .i64 n, .string s, .int .i64 kind] w fun e w' => e = .returned (.bool true) ∧ Below w.heap.size w w' := by
  obtain ⟨S, hS⟩ : ∃ S, s.extract 0 (min (s.size : Int) 20).toNat = S := ⟨_, rfl⟩
  have hk : kind < 0 ∨ 4 < kind ∨ kind = 0 ∨ kind = 1 ∨ kind = 2 ∨ kind = 3 ∨ kind = 4 := by omega
  rcases hk with hk | hk | rfl | rfl | rfl | rfl | rfl
  · cases hm : modeParse S.data.toList with
    | some m => exact texts_kn_p w hz hE hW n kind hk s S hs hS m hm
    | none =>
      by_cases hn : 0 ≤ n ∧ n ≤ 4095
      · exact texts_kn_ni w hz hE hW n kind hk s S hs hS hm hn.1 hn.2
      · exact texts_kn_no w hz hE hW n kind hk s S hs hS hm hn
  · cases hm : modeParse S.data.toList with
    | some m => exact texts_kp_p w hz hE hW n kind hk s S hs hS m hm
    | none =>
      by_cases hn : 0 ≤ n ∧ n ≤ 4095
      · exact texts_kp_ni w hz hE hW n kind hk s S hs hS hm hn.1 hn.2
      · exact texts_kp_no w hz hE hW n kind hk s S hs hS hm hn
  · cases hm : modeParse S.data.toList with
    | some m => exact texts_k0_p w hz hE hW n s S hs hS m hm
    | none =>
      by_cases hn : 0 ≤ n ∧ n ≤ 4095
      · exact texts_k0_ni w hz hE hW n s S hs hS hm hn.1 hn.2
      · exact texts_k0_no w hz hE hW n s S hs hS hm hn
  · cases hm : modeParse S.data.toList with
    | some m => exact texts_k1_p w hz hE hW n s S hs hS m hm
    | none =>
      by_cases hn : 0 ≤ n ∧ n ≤ 4095
      · exact texts_k1_ni w hz hE hW n s S hs hS hm hn.1 hn.2
      · exact texts_k1_no w hz hE hW n s S hs hS hm hn
  · cases hm : modeParse S.data.toList with
    | some m => exact texts_k2_p w hz hE hW n s S hs hS m hm
    | none =>
      by_cases hn : 0 ≤ n ∧ n ≤ 4095
      · exact texts_k2_ni w hz hE hW n s S hs hS hm hn.1 hn.2
      · exact texts_k2_no w hz hE hW n s S hs hS hm hn
  · cases hm : modeParse S.data.toList with
    | some m => exact texts_k3_p w hz hE hW n s S hs hS m hm
    | none =>
      by_cases hn : 0 ≤ n ∧ n ≤ 4095
      · exact texts_k3_ni w hz hE hW n s S hs hS hm hn.1 hn.2
      · exact texts_k3_no w hz hE hW n s S hs hS hm hn
  · cases hm : modeParse S.data.toList with
    | some m => exact texts_k4_p w hz hE hW n s S hs hS m hm
    | none =>
      by_cases hn : 0 ≤ n ∧ n ≤ 4095
      · exact texts_k4_ni w hz hE hW n s S hs hS hm hn.1 hn.2
      · exact texts_k4_no w hz hE hW n s S hs hS hm hn
end Go.Proofs.YtobklbangjjocaaDoor
