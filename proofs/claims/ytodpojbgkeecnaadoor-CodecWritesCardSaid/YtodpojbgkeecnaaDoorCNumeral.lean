/-
  take, numeral: the next sign; the digits as far as they go. Conditions: the reader's block is known, its bytes lie in blocks below it.
-/
import Derived.Test.YtodpojbgkeecnaaDoorCRead
import Derived.WalkMore
set_option linter.unusedSimpArgs false
set_option linter.unusedVariables false
namespace Go.Proofs.YtodpojbgkeecnaaDoor
open Go.RowKit

theorem take_end (w : World) (R : Nat) (op : Int) (h : IsRd w R op []) (s : Int) : Calls Tryd.prog 40 #[.pointer (some ⟨R, 0, none⟩), .int .u8 s] w fun e w' => e = .returned (.bool false) ∧ w = w' := by
  have H := Lib.hid h
  clear h
  go_enter Tryd.func40, Tryd.ntmps40
  go_wp2_with fail
  refine (ended_any w R op [] H.out).mono ?_
  rintro e w' ⟨rfl, rfl⟩
  simp only [List.isEmpty_nil]
  go_wp2_with fail
  go_ret
  exact ⟨rfl, rfl⟩
theorem first_cell {w : World} {R : Nat} {op : Int} {x : UInt8} {r : List UInt8} (h : IsRd w R op (x :: r)) : ∃ g o n c, w.cell? ⟨R, 0, none⟩ = some (.slice (some ⟨g, o, none⟩) n c) ∧ 0 < n ∧ w.cell? ⟨g, o, none⟩ = some (.int .u8 (x.toNat : Int)) := by
  obtain ⟨A, n, c, h1, h2⟩ := h
  have hl := h2.len
  simp only [List.length_cons] at hl
  obtain ⟨g, o, rfl, _, hc⟩ := h2.cells (by omega)
  exact ⟨g, o, n, c, h1.cell 0, by omega, hc 0 x rfl⟩
theorem take_no (w : World) (R : Nat) (op : Int) (x : UInt8) (r : List UInt8) (h : IsRd w R op (x :: r)) (s : Int) (hs : (x.toNat : Int) ≠ s) : Calls Tryd.prog 40 #[.pointer (some ⟨R, 0, none⟩), .int .u8 s] w fun e w' => e = .returned (.bool false) ∧ w = w' := by
  obtain ⟨g, o, n, c, c0, hn, cx⟩ := first_cell h
  have H := Lib.hid h
  obtain ⟨y, hy⟩ : ∃ y : Int, y = x.toNat := ⟨_, rfl⟩
  rw [← hy] at cx hs
  clear h hy
  go_enter Tryd.func40, Tryd.ntmps40
  go_wp2_with fail
  refine (ended_any w R op (x :: r) H.out).mono ?_
  rintro e w' ⟨rfl, rfl⟩
  simp only [List.isEmpty_cons]
  have hq : (y == s) = false := by simp [hs]
  go_wp2_with fail
  go_ret
  exact ⟨rfl, rfl⟩
theorem take_yes (w : World) (R : Nat) (op : Int) (x : UInt8) (r : List UInt8) (h : IsRd w R op (x :: r)) (s : Int) (hs : (x.toNat : Int) = s) : Calls Tryd.prog 40 #[.pointer (some ⟨R, 0, none⟩), .int .u8 s] w fun e w' => e = .returned (.bool true) ∧ IsRd w' R op r ∧ Only [R] w w' := by
  obtain ⟨g, o, n, c, c0, hn, cx⟩ := first_cell h
  have H := Lib.hid h
  rw [hs] at cx
  clear h hs
  go_enter Tryd.func40, Tryd.ntmps40
  go_wp2_with fail
  refine (ended_any w R op (x :: r) H.out).mono ?_
  rintro e w' ⟨rfl, rfl⟩
  simp only [List.isEmpty_cons]
  go_wp2_with fail
  refine (pass_any w R op (x :: r) H.out 1 1 rfl (by simp)).mono ?_
  rintro e w2 ⟨A, c2, rfl, _, h2, ho⟩
  have H2 := Lib.hid (And.intro h2 ho)
  clear h2 ho
  go_wp2_with fail
  go_ret
  exact ⟨rfl, H2.out.1, H2.out.2⟩

theorem str_nat (b : List UInt8) : strOfNums (b.map fun x => (x.toNat : Int)) = ⟨b.toArray⟩ := by
  have := bytesOf_nat b
  unfold Lib.bytesOf at this
  unfold strOfNums
  rw [this]
def isD (x : UInt8) : Bool := decide (48 ≤ x.toNat) && decide (x.toNat ≤ 57)
theorem digit_is (w : World) (x : UInt8) (b : Bool) (h : isD x = b) : Calls Tryd.prog 43 #[.int .u8 (x.toNat : Int)] w fun e w' => e = .returned (.bool b) ∧ w = w' := by
  subst h
  exact digit_any w x
/-- A numeral's signs: digits, and a minus that may be the first. -/
def Signs (d r : List UInt8) : Prop := (∀ (j : Nat) (x : UInt8), d[j]? = some x → isD x = true ∨ (j = 0 ∧ x = 45)) ∧ ∀ y, r[0]? = some y → isD y = false ∧ (d = [] → y ≠ 45)

set_option maxRecDepth 100000 in
set_option maxHeartbeats 1000000 in
theorem numeral_any (w : World) (R : Nat) (op : Int) (d r : List UInt8) (h : IsRd w R op (d ++ r)) (hs : Signs d r) (hlen : d.length + r.length ≤ 1000000) : Calls Tryd.prog 53 #[.pointer (some ⟨R, 0, none⟩)] w fun e w' => e = .returned (.string ⟨d.toArray⟩) ∧ IsRd w' R op r ∧ Only [R] w w' := by
  have H := Lib.hid h
  have HS := Lib.hid hs
  obtain ⟨A, n, c, h1, h2⟩ := h
  have c0 := h1.cell 0
  simp only [List.getElem?_cons_zero] at c0
  have hl := h2.len
  rw [List.length_append] at hl
  have H2 := Lib.hid h2
  clear h1 h2 hs
  go_enter Tryd.func53, Tryd.ntmps53
  go_wp2_with fail
  go_step3
  go_wp2_with fail
  go_step3
  go_wp2_with fail
  go_loopw [3, 11] (fun v i wr => ∃ k : Nat, k ≤ d.length ∧ v = .int .i64 k ∧ i = .int .i64 k ∧ wr = w) (fun _ i _ => n - (intOf i).toNat)
  case atStart => exact ⟨0, Nat.zero_le _, rfl, rfl, rfl⟩
  case round =>
    obtain ⟨k, hk, rfl, rfl, hw⟩ := hrel
    subst hw
    by_cases hkd : k < d.length
    · obtain ⟨g, o, rfl, _, hc⟩ := H2.out.cells (by omega)
      have hdk : d[k]? = some d[k] := List.getElem?_eq_getElem hkd
      generalize d[k] = x at hdk
      have hcx := hc k x (by rw [List.getElem?_append_left hkd]; exact hdk)
      have hx := HS.out.1 k x hdk
      have hkn : k < n := by omega
      clear hc hdk
      cases hq : isD x
      · obtain ⟨hk0, hx45⟩ : k = 0 ∧ x = 45 := by rcases hx with h | h; exact absurd (hq.symm.trans h) (by simp); exact h
        subst hk0 hx45
        have hcx2 : wr.cell? ⟨g, o, none⟩ = some (.int .u8 45) := hcx
        clear hx hcx hq
        go_wp2_with fail
        refine (digit_is wr 45 false (by decide)).mono ?_
        rintro e w2 ⟨rfl, rfl⟩
        go_wp2_with fail
        go_roundw
        case rel => exact ⟨1, by omega, by simp, by simp, trivial⟩
        case measure => simp [intOf]; omega
      · have HX := Lib.hid hq
        clear hx hq
        go_wp2_with fail
        refine (digit_is wr x true HX.out).mono ?_
        rintro e w2 ⟨rfl, rfl⟩
        go_wp2_with fail
        go_roundw
        case rel => exact ⟨k + 1, by omega, by go_num, by go_num, trivial⟩
        case measure => simp [intOf]; omega
    · obtain rfl : k = d.length := by omega
      rcases r with _ | ⟨y, r⟩
      · have hkn : ¬ d.length < n := by simp at hl; omega
        go_wp2_with fail
        refine (pass_any wr R op _ H.out d.length _ rfl (by simp)).mono ?_
        rintro e w2 ⟨A2, c2, rfl, hb2, h2, ho⟩
        rw [List.take_left] at hb2
        rw [List.drop_left] at h2
        have hcv := (bytes_in hb2).convert (P := Tryd.prog) (by simp) c2 23 5 9 Tryd.underlying23 Tryd.underlying5 Tryd.underlying9
        rw [str_nat] at hcv
        have HF := Lib.hid (And.intro h2 ho)
        clear hb2 h2 ho
        go_wp2_with fail
        try rw [Exit.noGoto_ret]
        go_ret
        exact ⟨rfl, HF.out.1, HF.out.2⟩
      · obtain ⟨g, o, rfl, _, hc⟩ := H2.out.cells (by simp only [List.length_cons] at hl; omega)
        have hcy := hc d.length y (by rw [List.getElem?_append_right (Nat.le_refl _)]; simp)
        have hy := HS.out.2 y rfl
        have hkn : d.length < n := by simp only [List.length_cons] at hl; omega
        obtain ⟨z, hz⟩ : ∃ z : Int, z = y.toNat := ⟨_, rfl⟩
        have hd := digit_is wr y false hy.1
        rw [← hz] at hcy hd
        clear hc
        have hz45 : d = [] → (z == 45) = false := by
            intro hdn
            have := hy.2 hdn
            simp only [beq_eq_false_iff_ne]
            intro e
            apply this
            apply UInt8.toNat_inj.1
            have : ((45 : UInt8).toNat : Int) = 45 := rfl
            omega
        clear hz hy
        by_cases hd0 : d.length = 0
        · have hdn := List.eq_nil_of_length_eq_zero hd0
          have hz45 := hz45 hdn
          subst hdn
          simp only [List.length_nil, Nat.add_zero] at hcy hkn hd0
          clear hd0
          go_wp2_with fail
          refine hd.mono ?_
          rintro e w2 ⟨rfl, rfl⟩
          go_wp2_with fail
          refine (pass_any wr R op _ H.out 0 _ rfl (by simp)).mono ?_
          rintro e w2 ⟨A2, c2, rfl, hb2, h2, ho⟩
          rw [List.take_zero] at hb2
          rw [List.drop_zero, List.nil_append] at h2
          have hcv := (bytes_in hb2).convert (P := Tryd.prog) (by simp) c2 23 5 9 Tryd.underlying23 Tryd.underlying5 Tryd.underlying9
          rw [str_nat] at hcv
          have HF := Lib.hid (And.intro h2 ho)
          clear hb2 h2 ho
          go_wp2_with fail
          try rw [Exit.noGoto_ret]
          go_ret
          exact ⟨rfl, HF.out.1, HF.out.2⟩
        · have hd1 : ((d.length : Int) == 0) = false := by rw [beq_eq_false_iff_ne]; omega
          clear hz45
          go_wp2_with fail
          refine hd.mono ?_
          rintro e w2 ⟨rfl, rfl⟩
          go_wp2_with fail
          refine (pass_any wr R op _ H.out d.length _ rfl (by simp)).mono ?_
          rintro e w2 ⟨A2, c2, rfl, hb2, h2, ho⟩
          rw [List.take_left] at hb2
          rw [List.drop_left] at h2
          have hcv := (bytes_in hb2).convert (P := Tryd.prog) (by simp) c2 23 5 9 Tryd.underlying23 Tryd.underlying5 Tryd.underlying9
          rw [str_nat] at hcv
          have HF := Lib.hid (And.intro h2 ho)
          clear hb2 h2 ho
          go_wp2_with fail
          try rw [Exit.noGoto_ret]
          go_ret
          exact ⟨rfl, HF.out.1, HF.out.2⟩
end Go.Proofs.YtodpojbgkeecnaaDoor
