/-
  How many bytes of a sort are at a text's front: walked for each sort. Condition: the text's size.
-/
import Derived.Test.YtammomjnigalbaaLBytes
set_option linter.unusedSimpArgs false
set_option linter.unusedVariables false
set_option maxRecDepth 100000
namespace Go.Proofs.Ytammomjnigalbaa
open Go.RowKit

def lLine (c : UInt8) : Bool := !decide (c.toNat = 10)
set_option maxHeartbeats 1000000 in
theorem run_inLine (w : World) (t : ByteArray) (hbig : t.size ≤ 9223372036854775807)  :
    Calls Try.prog 23 #[.string t, .func (.func 24) #[] #[]] w fun e w' => e = .returned (.int .i64 (spanL lLine (bsL t) : Nat)) ∧ Below w.heap.size w w' := by
  have HL := Lib.hid (bs_len t)
  go_enter Try.func23, Try.ntmps23
  go_wp2_with fail
  go_loopw [5] (fun iv wr => ∃ i : Nat, i ≤ t.size ∧ iv = .int .i64 i ∧ Hid (∀ c ∈ (bsL t).take i, lLine c = true) ∧ Hid (Below w.heap.size w wr)) (fun iv _ => t.size - (intOf iv).toNat)
  case atStart => exact ⟨0, by omega, rfl, Lib.hid (by simp), Lib.hid (Below.refl _ _)⟩
  case round =>
    obtain ⟨i, hi, rfl, HN, HW⟩ := hrel
    by_cases hlt : i < t.size
    · obtain ⟨c, hc⟩ : ∃ c, (bsL t)[i]? = some c := ⟨_, List.getElem?_eq_getElem (by rw [HL.out]; exact hlt)⟩
      have hx := fun W => bs_index t i c hc W
      have HC := Lib.hid hc
      have b0 : (0 : Int) ≤ (i : Int) := by omega
      have b1 : (i : Int) < (t.size : Int) := by omega
      clear hc
      go_wp2_with fail
      refine (inLine_any wr c.toNat).mono ?_
      rintro e w2 ⟨rfl, h2⟩
      rw [show (!decide (c.toNat = 10)) = lLine c from rfl]
      have H2 := Lib.hid (HW.out.trans (h2.mono HW.out.size))
      clear h2
      cases hp : lLine c with
      | true =>
        have HE : Hid (∀ d ∈ (bsL t).take (i + 1), lLine d = true) := Lib.hid (by
          intro d hd
          rw [List.take_add_one, HC.out, Option.toList_some, List.mem_append, List.mem_singleton] at hd
          rcases hd with hd | rfl
          · exact HN.out d hd
          · exact hp)
        clear hp
        go_wp2_with fail
        exact ⟨⟨i + 1, hlt, by rw [Int.natCast_succ], HE, H2⟩, by simp [intOf]; omega⟩
      | false =>
        have HE : Hid (spanL lLine (bsL t) = i) := Lib.hid (span_stop HN.out (fun d hd => by rw [HC.out] at hd; cases hd; exact hp) (by rw [HL.out]; exact hi))
        clear hp
        go_wp2_with fail
        go_ret
        exact ⟨pret_num (by rw [HE.out]), H2.out⟩
    · obtain rfl : i = t.size := by omega
      have HE : Hid (spanL lLine (bsL t) = t.size) := Lib.hid (span_stop HN.out (fun d hd => by rw [List.getElem?_eq_none (by rw [HL.out]; exact Nat.le_refl _)] at hd; cases hd) (by rw [HL.out]; exact Nat.le_refl _))
      go_wp2_with fail
      go_ret
      exact ⟨pret_num (by rw [HE.out]), HW.out⟩
set_option maxHeartbeats 1000000 in
theorem run_isDigit (w : World) (t : ByteArray) (hbig : t.size ≤ 9223372036854775807)  :
    Calls Try.prog 23 #[.string t, .func (.func 27) #[] #[]] w fun e w' => e = .returned (.int .i64 (spanL lDig (bsL t) : Nat)) ∧ Below w.heap.size w w' := by
  have HL := Lib.hid (bs_len t)
  go_enter Try.func23, Try.ntmps23
  go_wp2_with fail
  go_loopw [5] (fun iv wr => ∃ i : Nat, i ≤ t.size ∧ iv = .int .i64 i ∧ Hid (∀ c ∈ (bsL t).take i, lDig c = true) ∧ Hid (Below w.heap.size w wr)) (fun iv _ => t.size - (intOf iv).toNat)
  case atStart => exact ⟨0, by omega, rfl, Lib.hid (by simp), Lib.hid (Below.refl _ _)⟩
  case round =>
    obtain ⟨i, hi, rfl, HN, HW⟩ := hrel
    by_cases hlt : i < t.size
    · obtain ⟨c, hc⟩ : ∃ c, (bsL t)[i]? = some c := ⟨_, List.getElem?_eq_getElem (by rw [HL.out]; exact hlt)⟩
      have hx := fun W => bs_index t i c hc W
      have HC := Lib.hid hc
      have b0 : (0 : Int) ≤ (i : Int) := by omega
      have b1 : (i : Int) < (t.size : Int) := by omega
      clear hc
      go_wp2_with fail
      refine (isDigit_any wr c.toNat).mono ?_
      rintro e w2 ⟨rfl, h2⟩
      rw [show nDig c.toNat = lDig c from rfl]
      have H2 := Lib.hid (HW.out.trans (h2.mono HW.out.size))
      clear h2
      cases hp : lDig c with
      | true =>
        have HE : Hid (∀ d ∈ (bsL t).take (i + 1), lDig d = true) := Lib.hid (by
          intro d hd
          rw [List.take_add_one, HC.out, Option.toList_some, List.mem_append, List.mem_singleton] at hd
          rcases hd with hd | rfl
          · exact HN.out d hd
          · exact hp)
        clear hp
        go_wp2_with fail
        exact ⟨⟨i + 1, hlt, by rw [Int.natCast_succ], HE, H2⟩, by simp [intOf]; omega⟩
      | false =>
        have HE : Hid (spanL lDig (bsL t) = i) := Lib.hid (span_stop HN.out (fun d hd => by rw [HC.out] at hd; cases hd; exact hp) (by rw [HL.out]; exact hi))
        clear hp
        go_wp2_with fail
        go_ret
        exact ⟨pret_num (by rw [HE.out]), H2.out⟩
    · obtain rfl : i = t.size := by omega
      have HE : Hid (spanL lDig (bsL t) = t.size) := Lib.hid (span_stop HN.out (fun d hd => by rw [List.getElem?_eq_none (by rw [HL.out]; exact Nat.le_refl _)] at hd; cases hd) (by rw [HL.out]; exact Nat.le_refl _))
      go_wp2_with fail
      go_ret
      exact ⟨pret_num (by rw [HE.out]), HW.out⟩
set_option maxHeartbeats 1000000 in
theorem run_inPath (w : World) (t : ByteArray) (hbig : t.size ≤ 9223372036854775807)  :
    Calls Try.prog 23 #[.string t, .func (.func 28) #[] #[]] w fun e w' => e = .returned (.int .i64 (spanL lPath (bsL t) : Nat)) ∧ Below w.heap.size w w' := by
  have HL := Lib.hid (bs_len t)
  go_enter Try.func23, Try.ntmps23
  go_wp2_with fail
  go_loopw [5] (fun iv wr => ∃ i : Nat, i ≤ t.size ∧ iv = .int .i64 i ∧ Hid (∀ c ∈ (bsL t).take i, lPath c = true) ∧ Hid (Below w.heap.size w wr)) (fun iv _ => t.size - (intOf iv).toNat)
  case atStart => exact ⟨0, by omega, rfl, Lib.hid (by simp), Lib.hid (Below.refl _ _)⟩
  case round =>
    obtain ⟨i, hi, rfl, HN, HW⟩ := hrel
    by_cases hlt : i < t.size
    · obtain ⟨c, hc⟩ : ∃ c, (bsL t)[i]? = some c := ⟨_, List.getElem?_eq_getElem (by rw [HL.out]; exact hlt)⟩
      have hx := fun W => bs_index t i c hc W
      have HC := Lib.hid hc
      have b0 : (0 : Int) ≤ (i : Int) := by omega
      have b1 : (i : Int) < (t.size : Int) := by omega
      clear hc
      go_wp2_with fail
      refine (inPath_any wr c.toNat).mono ?_
      rintro e w2 ⟨rfl, h2⟩
      rw [show nPath c.toNat = lPath c from rfl]
      have H2 := Lib.hid (HW.out.trans (h2.mono HW.out.size))
      clear h2
      cases hp : lPath c with
      | true =>
        have HE : Hid (∀ d ∈ (bsL t).take (i + 1), lPath d = true) := Lib.hid (by
          intro d hd
          rw [List.take_add_one, HC.out, Option.toList_some, List.mem_append, List.mem_singleton] at hd
          rcases hd with hd | rfl
          · exact HN.out d hd
          · exact hp)
        clear hp
        go_wp2_with fail
        exact ⟨⟨i + 1, hlt, by rw [Int.natCast_succ], HE, H2⟩, by simp [intOf]; omega⟩
      | false =>
        have HE : Hid (spanL lPath (bsL t) = i) := Lib.hid (span_stop HN.out (fun d hd => by rw [HC.out] at hd; cases hd; exact hp) (by rw [HL.out]; exact hi))
        clear hp
        go_wp2_with fail
        go_ret
        exact ⟨pret_num (by rw [HE.out]), H2.out⟩
    · obtain rfl : i = t.size := by omega
      have HE : Hid (spanL lPath (bsL t) = t.size) := Lib.hid (span_stop HN.out (fun d hd => by rw [List.getElem?_eq_none (by rw [HL.out]; exact Nat.le_refl _)] at hd; cases hd) (by rw [HL.out]; exact Nat.le_refl _))
      go_wp2_with fail
      go_ret
      exact ⟨pret_num (by rw [HE.out]), HW.out⟩
set_option maxHeartbeats 1000000 in
theorem run_inWord (w : World) (t : ByteArray) (hbig : t.size ≤ 9223372036854775807)  :
    Calls Try.prog 23 #[.string t, .func (.func 30) #[] #[]] w fun e w' => e = .returned (.int .i64 (spanL lWord (bsL t) : Nat)) ∧ Below w.heap.size w w' := by
  have HL := Lib.hid (bs_len t)
  go_enter Try.func23, Try.ntmps23
  go_wp2_with fail
  go_loopw [5] (fun iv wr => ∃ i : Nat, i ≤ t.size ∧ iv = .int .i64 i ∧ Hid (∀ c ∈ (bsL t).take i, lWord c = true) ∧ Hid (Below w.heap.size w wr)) (fun iv _ => t.size - (intOf iv).toNat)
  case atStart => exact ⟨0, by omega, rfl, Lib.hid (by simp), Lib.hid (Below.refl _ _)⟩
  case round =>
    obtain ⟨i, hi, rfl, HN, HW⟩ := hrel
    by_cases hlt : i < t.size
    · obtain ⟨c, hc⟩ : ∃ c, (bsL t)[i]? = some c := ⟨_, List.getElem?_eq_getElem (by rw [HL.out]; exact hlt)⟩
      have hx := fun W => bs_index t i c hc W
      have HC := Lib.hid hc
      have b0 : (0 : Int) ≤ (i : Int) := by omega
      have b1 : (i : Int) < (t.size : Int) := by omega
      clear hc
      go_wp2_with fail
      refine (inWord_any wr c.toNat).mono ?_
      rintro e w2 ⟨rfl, h2⟩
      rw [show nWord c.toNat = lWord c from rfl]
      have H2 := Lib.hid (HW.out.trans (h2.mono HW.out.size))
      clear h2
      cases hp : lWord c with
      | true =>
        have HE : Hid (∀ d ∈ (bsL t).take (i + 1), lWord d = true) := Lib.hid (by
          intro d hd
          rw [List.take_add_one, HC.out, Option.toList_some, List.mem_append, List.mem_singleton] at hd
          rcases hd with hd | rfl
          · exact HN.out d hd
          · exact hp)
        clear hp
        go_wp2_with fail
        exact ⟨⟨i + 1, hlt, by rw [Int.natCast_succ], HE, H2⟩, by simp [intOf]; omega⟩
      | false =>
        have HE : Hid (spanL lWord (bsL t) = i) := Lib.hid (span_stop HN.out (fun d hd => by rw [HC.out] at hd; cases hd; exact hp) (by rw [HL.out]; exact hi))
        clear hp
        go_wp2_with fail
        go_ret
        exact ⟨pret_num (by rw [HE.out]), H2.out⟩
    · obtain rfl : i = t.size := by omega
      have HE : Hid (spanL lWord (bsL t) = t.size) := Lib.hid (span_stop HN.out (fun d hd => by rw [List.getElem?_eq_none (by rw [HL.out]; exact Nat.le_refl _)] at hd; cases hd) (by rw [HL.out]; exact Nat.le_refl _))
      go_wp2_with fail
      go_ret
      exact ⟨pret_num (by rw [HE.out]), HW.out⟩
set_option maxHeartbeats 1000000 in
theorem run_inName (w : World) (t : ByteArray) (hbig : t.size ≤ 9223372036854775807)  :
    Calls Try.prog 23 #[.string t, .func (.func 31) #[] #[]] w fun e w' => e = .returned (.int .i64 (spanL lName (bsL t) : Nat)) ∧ Below w.heap.size w w' := by
  have HL := Lib.hid (bs_len t)
  go_enter Try.func23, Try.ntmps23
  go_wp2_with fail
  go_loopw [5] (fun iv wr => ∃ i : Nat, i ≤ t.size ∧ iv = .int .i64 i ∧ Hid (∀ c ∈ (bsL t).take i, lName c = true) ∧ Hid (Below w.heap.size w wr)) (fun iv _ => t.size - (intOf iv).toNat)
  case atStart => exact ⟨0, by omega, rfl, Lib.hid (by simp), Lib.hid (Below.refl _ _)⟩
  case round =>
    obtain ⟨i, hi, rfl, HN, HW⟩ := hrel
    by_cases hlt : i < t.size
    · obtain ⟨c, hc⟩ : ∃ c, (bsL t)[i]? = some c := ⟨_, List.getElem?_eq_getElem (by rw [HL.out]; exact hlt)⟩
      have hx := fun W => bs_index t i c hc W
      have HC := Lib.hid hc
      have b0 : (0 : Int) ≤ (i : Int) := by omega
      have b1 : (i : Int) < (t.size : Int) := by omega
      clear hc
      go_wp2_with fail
      refine (inName_any wr c.toNat).mono ?_
      rintro e w2 ⟨rfl, h2⟩
      rw [show nName c.toNat = lName c from rfl]
      have H2 := Lib.hid (HW.out.trans (h2.mono HW.out.size))
      clear h2
      cases hp : lName c with
      | true =>
        have HE : Hid (∀ d ∈ (bsL t).take (i + 1), lName d = true) := Lib.hid (by
          intro d hd
          rw [List.take_add_one, HC.out, Option.toList_some, List.mem_append, List.mem_singleton] at hd
          rcases hd with hd | rfl
          · exact HN.out d hd
          · exact hp)
        clear hp
        go_wp2_with fail
        exact ⟨⟨i + 1, hlt, by rw [Int.natCast_succ], HE, H2⟩, by simp [intOf]; omega⟩
      | false =>
        have HE : Hid (spanL lName (bsL t) = i) := Lib.hid (span_stop HN.out (fun d hd => by rw [HC.out] at hd; cases hd; exact hp) (by rw [HL.out]; exact hi))
        clear hp
        go_wp2_with fail
        go_ret
        exact ⟨pret_num (by rw [HE.out]), H2.out⟩
    · obtain rfl : i = t.size := by omega
      have HE : Hid (spanL lName (bsL t) = t.size) := Lib.hid (span_stop HN.out (fun d hd => by rw [List.getElem?_eq_none (by rw [HL.out]; exact Nat.le_refl _)] at hd; cases hd) (by rw [HL.out]; exact Nat.le_refl _))
      go_wp2_with fail
      go_ret
      exact ⟨pret_num (by rw [HE.out]), HW.out⟩
end Go.Proofs.Ytammomjnigalbaa
