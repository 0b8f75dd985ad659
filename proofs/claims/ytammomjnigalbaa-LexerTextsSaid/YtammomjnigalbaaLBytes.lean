/-
  Which bytes begin a token, and which go on with one: walked; how many of a sort are at a text's front. No condition but the text's size.
-/
import Derived.Test.YtammomjnigalbaaLPure
import Derived.Test.YtammomjnigalbaaPPure
import Derived.Test.YtammomjnigalbaaChecked
import Derived.Outline
import Derived.Deep.DeepFit
import Derived.Deep.MidRow
import Derived.Deep.DeepCutAuto
import Derived.Deep.CutBlock
import Derived.Deep.RegionHeld3
import Derived.Deep.RegionLaw
import Derived.Lib.Strings
import Derived.Test.YtammomjnigalbaaRWords
import Derived.Test.YtammomjnigalbaaShelf
set_option linter.unusedSimpArgs false
set_option linter.unusedVariables false
set_option maxRecDepth 100000
namespace Go.Proofs.Ytammomjnigalbaa
open Go.RowKit

/-- A text's bytes. -/
abbrev bsL (t : ByteArray) : By := t.data.toList
theorem bs_len (t : ByteArray) : (bsL t).length = t.size := by rw [Array.length_toList]; rfl
theorem ba_ext {x y : ByteArray} : x = y ↔ bsL x = bsL y := by
  constructor
  · intro h; rw [h]
  · intro h
    cases x; cases y
    exact congrArg ByteArray.mk (Array.toList_inj.1 h)
theorem bs_extract (t : ByteArray) (i j : Nat) : bsL (t.extract i j) = ((bsL t).take j).drop i := by
  show (t.extract i j).data.toList = _
  rw [ByteArray.data_extract, Array.toList_extract, List.extract_eq_take_drop, List.drop_take]
theorem bs_take (t : ByteArray) (i : Nat) : bsL (t.extract 0 i) = (bsL t).take i := by rw [bs_extract, List.drop_zero]
theorem bs_drop (t : ByteArray) (i : Nat) : bsL (t.extract i t.size) = (bsL t).drop i := by rw [bs_extract, ← bs_len, List.take_length]
theorem bs_index (t : ByteArray) (i : Nat) (c : UInt8) (hi : (bsL t)[i]? = some c) (W : World) : (Instr.index 9 (.string t) (.int .i64 i)).run Try.prog W = .ok (.int .u8 (c.toNat : Int)) W := by
  obtain ⟨hlt, he⟩ := List.getElem?_eq_some_iff.1 hi
  rw [bs_len] at hlt
  rw [run_index_string _ _ _ _ _ Try.underlying9]
  rw [dif_pos ⟨by omega, by omega⟩]
  rw [← he]
  simp only [Int.toNat_natCast]
  simp [ByteArray.getElem_eq_getElem_data]
def nLet (k : Nat) : Bool := decide (97 ≤ k) && decide (k ≤ 122)
def nDig (k : Nat) : Bool := decide (48 ≤ k) && decide (k ≤ 57)
def nWord (k : Nat) : Bool := nLet k || nDig k || decide (k = 45) || decide (k = 95)
def nName (k : Nat) : Bool := nWord k || decide (k = 46)
def nPath (k : Nat) : Bool := nName k || decide (k = 47) || decide (k = 42)
theorem nc (a b : Nat) (h : a ≤ b) : ((a : Int) ≤ (b : Int)) = True ∧ decide ((a : Int) ≤ (b : Int)) = true := ⟨eq_true (by omega), decide_eq_true (by omega)⟩
theorem nc_no (a b : Nat) (h : ¬ a ≤ b) : ((a : Int) ≤ (b : Int)) = False ∧ decide ((a : Int) ≤ (b : Int)) = false := ⟨eq_false (by omega), decide_eq_false (by omega)⟩
theorem ne_facts (k : Nat) (z : Int) (h : ¬ (k : Int) = z) : ((k : Int) = z) = False ∧ decide ((k : Int) = z) = false ∧ ((k : Int) == z) = false ∧ ((k : Int) != z) = true := ⟨eq_false h, decide_eq_false h, by simpa using h, by simpa using h⟩
theorem eq_facts (k : Nat) (z : Int) (h : (k : Int) = z) : ((k : Int) = z) = True ∧ decide ((k : Int) = z) = true ∧ ((k : Int) == z) = true ∧ ((k : Int) != z) = false := ⟨eq_true h, decide_eq_true h, by simpa using h, by simpa using h⟩
set_option maxHeartbeats 1000000 in
theorem isLetter_any (w : World) (k : Nat) : Calls Try.prog 25 #[.int .u8 (k : Int)] w fun e w' => e = .returned (.bool (nLet k)) ∧ Below w.heap.size w w' := by
  by_cases h1 : 97 ≤ k
  · have HF : Hid (nLet k = decide (k ≤ 122)) := Lib.hid (by unfold nLet; simp [h1])
    have e1 : decide ((97 : Int) ≤ (k : Int)) = true := decide_eq_true (by omega)
    have e2 : ((97 : Int) ≤ (k : Int)) = True := eq_true (by omega)
    have e3 : decide ((k : Int) ≤ 122) = decide (k ≤ 122) := decide_eq_decide.2 (by omega)
    clear h1
    go_enter Try.func25, Try.ntmps25
    go_wp2_with fail
    go_ret
    exact ⟨pret_bool (by rw [HF.out]), Below.refl _ _⟩
  · have HF : Hid (nLet k = false) := Lib.hid (by unfold nLet; simp [h1])
    have e1 : decide ((97 : Int) ≤ (k : Int)) = false := decide_eq_false (by omega)
    have e2 : ((97 : Int) ≤ (k : Int)) = False := eq_false (by omega)
    clear h1
    go_enter Try.func25, Try.ntmps25
    go_wp2_with fail
    go_ret
    exact ⟨pret_bool (by rw [HF.out]), Below.refl _ _⟩
set_option maxHeartbeats 1000000 in
theorem isDigit_any (w : World) (k : Nat) : Calls Try.prog 27 #[.int .u8 (k : Int)] w fun e w' => e = .returned (.bool (nDig k)) ∧ Below w.heap.size w w' := by
  by_cases h1 : 48 ≤ k
  · have HF : Hid (nDig k = decide (k ≤ 57)) := Lib.hid (by unfold nDig; simp [h1])
    have e1 : decide ((48 : Int) ≤ (k : Int)) = true := decide_eq_true (by omega)
    have e2 : ((48 : Int) ≤ (k : Int)) = True := eq_true (by omega)
    have e3 : decide ((k : Int) ≤ 57) = decide (k ≤ 57) := decide_eq_decide.2 (by omega)
    clear h1
    go_enter Try.func27, Try.ntmps27
    go_wp2_with fail
    go_ret
    exact ⟨pret_bool (by rw [HF.out]), Below.refl _ _⟩
  · have HF : Hid (nDig k = false) := Lib.hid (by unfold nDig; simp [h1])
    have e1 : decide ((48 : Int) ≤ (k : Int)) = false := decide_eq_false (by omega)
    have e2 : ((48 : Int) ≤ (k : Int)) = False := eq_false (by omega)
    clear h1
    go_enter Try.func27, Try.ntmps27
    go_wp2_with fail
    go_ret
    exact ⟨pret_bool (by rw [HF.out]), Below.refl _ _⟩
set_option maxHeartbeats 1000000 in
theorem inWord_any (w : World) (k : Nat) : Calls Try.prog 30 #[.int .u8 (k : Int)] w fun e w' => e = .returned (.bool (nWord k)) ∧ Below w.heap.size w w' := by
  obtain ⟨q, hq⟩ : ∃ q, q = (decide (k = 45) || decide (k = 95)) := ⟨_, rfl⟩
  have HF : Hid (nWord k = (nLet k || nDig k || q)) := Lib.hid (by unfold nWord; rw [hq, Bool.or_assoc])
  have HQ := Lib.hid hq
  clear hq
  go_enter Try.func30, Try.ntmps30
  go_wp2_with fail
  refine (isLetter_any w k).mono ?_
  rintro e w1 ⟨rfl, h1⟩
  have H1 := Lib.hid h1
  clear h1
  cases ha : nLet k with
  | true =>
    have HA := Lib.hid ha
    clear ha
    go_wp2_with fail
    go_ret
    exact ⟨pret_bool (by rw [HF.out, HA.out]; rfl), H1.out⟩
  | false =>
    have HA := Lib.hid ha
    clear ha
    go_wp2_with fail
    refine (isDigit_any w1 k).mono ?_
    rintro e w2 ⟨rfl, h2⟩
    have H2 := Lib.hid (H1.out.trans (h2.mono H1.out.size))
    clear h2
    cases hb : nDig k with
    | true =>
      have HB := Lib.hid hb
      clear hb
      go_wp2_with fail
      go_ret
      exact ⟨pret_bool (by rw [HF.out, HA.out, HB.out]; rfl), H2.out⟩
    | false =>
      have HG : Hid (nWord k = q) := Lib.hid (by rw [HF.out, HA.out, hb]; rfl)
      clear hb
      by_cases h45 : (k : Int) = 45
      · obtain ⟨e1, e2, e3, e4⟩ := eq_facts k 45 h45
        have HE : Hid (q = true) := Lib.hid (by rw [HQ.out]; simp; omega)
        clear h45
        go_wp2_with fail
        go_ret
        exact ⟨pret_bool (by rw [HG.out, HE.out]), H2.out⟩
      · obtain ⟨e1, e2, e3, e4⟩ := ne_facts k 45 h45
        by_cases h95 : (k : Int) = 95
        · obtain ⟨f1, f2, f3, f4⟩ := eq_facts k 95 h95
          have HE : Hid (q = true) := Lib.hid (by rw [HQ.out]; simp; omega)
          clear h45 h95
          go_wp2_with fail
          go_ret
          exact ⟨pret_bool (by rw [HG.out, HE.out]), H2.out⟩
        · obtain ⟨f1, f2, f3, f4⟩ := ne_facts k 95 h95
          have HE : Hid (q = false) := Lib.hid (by rw [HQ.out]; simp; omega)
          clear h45 h95
          go_wp2_with fail
          go_ret
          exact ⟨pret_bool (by rw [HG.out, HE.out]), H2.out⟩
set_option maxHeartbeats 1000000 in
theorem inName_any (w : World) (k : Nat) : Calls Try.prog 31 #[.int .u8 (k : Int)] w fun e w' => e = .returned (.bool (nName k)) ∧ Below w.heap.size w w' := by
  have HF : Hid (nName k = (nWord k || decide (k = 46))) := Lib.hid rfl
  go_enter Try.func31, Try.ntmps31
  go_wp2_with fail
  refine (inWord_any w k).mono ?_
  rintro e w1 ⟨rfl, h1⟩
  have H1 := Lib.hid h1
  clear h1
  cases ha : nWord k with
  | true =>
    have HA := Lib.hid ha
    clear ha
    go_wp2_with fail
    go_ret
    exact ⟨pret_bool (by rw [HF.out, HA.out]; rfl), H1.out⟩
  | false =>
    have HA := Lib.hid ha
    clear ha
    by_cases h45 : (k : Int) = 46
    · obtain ⟨e1, e2, e3, e4⟩ := eq_facts k 46 h45
      have HE : Hid (nName k = true) := Lib.hid (by rw [HF.out]; simp; omega)
      clear h45
      go_wp2_with fail
      go_ret
      exact ⟨pret_bool (by rw [HE.out]), H1.out⟩
    · obtain ⟨e1, e2, e3, e4⟩ := ne_facts k 46 h45
      have HE : Hid (nName k = false) := Lib.hid (by rw [HF.out, HA.out]; simp; omega)
      clear h45
      go_wp2_with fail
      go_ret
      exact ⟨pret_bool (by rw [HE.out]), H1.out⟩
set_option maxHeartbeats 1000000 in
theorem inPath_any (w : World) (k : Nat) : Calls Try.prog 28 #[.int .u8 (k : Int)] w fun e w' => e = .returned (.bool (nPath k)) ∧ Below w.heap.size w w' := by
  have HF : Hid (nPath k = (nName k || decide (k = 47) || decide (k = 42))) := Lib.hid rfl
  go_enter Try.func28, Try.ntmps28
  go_wp2_with fail
  refine (inName_any w k).mono ?_
  rintro e w1 ⟨rfl, h1⟩
  have H1 := Lib.hid h1
  clear h1
  cases ha : nName k with
  | true =>
    have HA := Lib.hid ha
    clear ha
    go_wp2_with fail
    go_ret
    exact ⟨pret_bool (by rw [HF.out, HA.out]; rfl), H1.out⟩
  | false =>
    have HA := Lib.hid ha
    clear ha
    by_cases h45 : (k : Int) = 47
    · obtain ⟨e1, e2, e3, e4⟩ := eq_facts k 47 h45
      have HE : Hid (nPath k = true) := Lib.hid (by rw [HF.out]; simp; omega)
      clear h45
      go_wp2_with fail
      go_ret
      exact ⟨pret_bool (by rw [HE.out]), H1.out⟩
    · obtain ⟨e1, e2, e3, e4⟩ := ne_facts k 47 h45
      by_cases h95 : (k : Int) = 42
      · obtain ⟨f1, f2, f3, f4⟩ := eq_facts k 42 h95
        have HE : Hid (nPath k = true) := Lib.hid (by rw [HF.out]; simp; omega)
        clear h45 h95
        go_wp2_with fail
        go_ret
        exact ⟨pret_bool (by rw [HE.out]), H1.out⟩
      · obtain ⟨f1, f2, f3, f4⟩ := ne_facts k 42 h95
        have HE : Hid (nPath k = false) := Lib.hid (by rw [HF.out, HA.out]; simp; omega)
        clear h45 h95
        go_wp2_with fail
        go_ret
        exact ⟨pret_bool (by rw [HE.out]), H1.out⟩
set_option maxHeartbeats 1000000 in
theorem inLine_any (w : World) (k : Nat) : Calls Try.prog 24 #[.int .u8 (k : Int)] w fun e w' => e = .returned (.bool (!decide (k = 10))) ∧ Below w.heap.size w w' := by
  by_cases h : (k : Int) = 10
  · obtain ⟨e1, e2, e3, e4⟩ := eq_facts k 10 h
    have HE : Hid ((!decide (k = 10)) = false) := Lib.hid (by simp; omega)
    clear h
    go_enter Try.func24, Try.ntmps24
    go_wp2_with fail
    go_ret
    exact ⟨pret_bool (by rw [HE.out]), Below.refl _ _⟩
  · obtain ⟨e1, e2, e3, e4⟩ := ne_facts k 10 h
    have HE : Hid ((!decide (k = 10)) = true) := Lib.hid (by simp; omega)
    clear h
    go_enter Try.func24, Try.ntmps24
    go_wp2_with fail
    go_ret
    exact ⟨pret_bool (by rw [HE.out]), Below.refl _ _⟩
theorem sign_idx : ∀ c : UInt8, decide ((0 : Int) ≤ Lib.indexByte [40, 41, 44, 61, 60, 62, 42, 59] ((c.toNat : Int).toNat.toUInt8)) = lSign c := u8_all (by decide +kernel)
set_option maxHeartbeats 1000000 in
theorem isSign_any (w : World) (c : UInt8) : Calls Try.prog 29 #[.int .u8 (c.toNat : Int)] w fun e w' => e = .returned (.bool (lSign c)) ∧ Below w.heap.size w w' := by
  have HS := Lib.hid (sign_idx c)
  obtain ⟨k, hk⟩ : ∃ k : Int, k = (c.toNat : Int) := ⟨_, rfl⟩
  rw [← hk] at HS ⊢
  clear hk
  go_enter Try.func29, Try.ntmps29
  go_wp2_with fail
  refine (Try.strings_IndexByte _ k w).mono ?_
  rintro e w1 ⟨rfl, rfl⟩
  have HT := Lib.hid HS.out
  go_wp2_with fail
  go_ret
  exact ⟨pret_bool HT.out, Below.refl _ _⟩
/-- How many at the front are of a sort. -/
theorem span_stop {p : UInt8 → Bool} {l : By} {i : Nat} (h : ∀ c ∈ l.take i, p c = true) (hs : ∀ c, l[i]? = some c → p c = false) (hi : i ≤ l.length) : spanL p l = i := by
  have e := spanL_all (p := p) (l.take i) (l.drop i) h
  rw [List.take_append_drop, List.length_take] at e
  have h0 : spanL p (l.drop i) = 0 := by
    cases hd : l.drop i with
    | nil => rfl
    | cons c r =>
      exact spanL_one (hs c (by have := congrArg (fun l => l[0]?) hd; simpa using this))
  rw [e, h0]
  omega
end Go.Proofs.Ytammomjnigalbaa
