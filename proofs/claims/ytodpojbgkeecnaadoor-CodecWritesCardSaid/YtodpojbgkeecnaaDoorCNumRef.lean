/-
  The document's Number: to the base 10. Condition: a number of 64 bits.
-/
import Derived.Test.YtodpojbgkeecnaaDoorCLawKit
import Derived.Laws.Concat
set_option linter.unusedSimpArgs false
set_option linter.unusedVariables false
namespace Go.Proofs.YtodpojbgkeecnaaDoor
open Go.RowKit

theorem dec_small {m : Nat} (h : m < 10) : Lib.decDigits m = [UInt8.ofNat (48 + m)] := by rw [Lib.decDigits, dif_pos h]
theorem dec_big {m : Nat} (h : ¬ m < 10) : Lib.decDigits m = Lib.decDigits (m / 10) ++ [UInt8.ofNat (48 + m % 10)] := by rw [Lib.decDigits, dif_neg h]
theorem dec_len (m : Nat) (h : m ≤ 9223372036854775808) : (Lib.decDigits m).length ≤ 21 := by
  rcases Nat.lt_or_ge m 9223372036854775808 with h1 | h1
  · have := Lib.itoa_length_le (m : Int) (by omega) (by omega)
    rwa [Lib.itoa_nonneg] at this
  · obtain rfl : m = 9223372036854775808 := by omega
    have := Lib.itoa_length_le (-9223372036854775808) (by omega) (by omega)
    unfold Lib.itoa at this
    rw [if_pos (by omega)] at this
    simp only [List.length_cons] at this
    have e : (-9223372036854775808 : Int).natAbs = 9223372036854775808 := by decide
    rw [e] at this
    omega
theorem bs_cons (x : UInt8) (l : List UInt8) : (⟨#[x]⟩ : ByteArray) ++ ⟨l.toArray⟩ = ⟨(x :: l).toArray⟩ := by
  apply ByteArray.ext
  simp
theorem bs_zero : ({ data := #[48, 49, 50, 51, 52, 53, 54, 55, 56, 57] } : ByteArray).extract 0 1 = ⟨#[UInt8.ofNat (48 + 0)]⟩ := by decide +kernel
theorem bs_digit (q : Nat) : (⟨#[48 + UInt8.ofNat q]⟩ : ByteArray) = ⟨#[UInt8.ofNat (48 + q)]⟩ := by rw [UInt8.ofNat_add]; rfl
theorem itoa_split (n : Int) : Lib.itoa n = (if n < 0 then [45] else []) ++ Lib.decDigits n.natAbs := by
  unfold Lib.itoa
  split
  · rfl
  · rw [show n.toNat = n.natAbs by omega]; rfl
/-- Where Number's loop stands. -/
def NRel (n : Int) (v s : Value) : Prop := ∃ (m : Int) (l : List UInt8), v = .int .i64 m ∧ s = .string ⟨l.toArray⟩ ∧ Lib.decDigits m.natAbs ++ l = Lib.decDigits n.natAbs ∧ -9223372036854775808 ≤ m ∧ m ≤ 9223372036854775807
theorem ten_digits : ∀ (q : Nat), q < 10 → ∀ (w : World), (Instr.sliceAt 9 (.string ⟨#[48, 49, 50, 51, 52, 53, 54, 55, 56, 57]⟩) (some (.int .i64 q)) (some (.int .i64 ((q : Int) + 1))) none).run Tryd.prog w = .ok (.string ⟨#[UInt8.ofNat (48 + q)]⟩) w
  | 0, _, w => by kernel_rfl
  | 1, _, w => by kernel_rfl
  | 2, _, w => by kernel_rfl
  | 3, _, w => by kernel_rfl
  | 4, _, w => by kernel_rfl
  | 5, _, w => by kernel_rfl
  | 6, _, w => by kernel_rfl
  | 7, _, w => by kernel_rfl
  | 8, _, w => by kernel_rfl
  | 9, _, w => by kernel_rfl
  | q + 10, h, _ => absurd h (by omega)
theorem neg_rem (k : Nat) : (-(k : Int)).tmod 10 = -((k % 10 : Nat) : Int) := by rw [Int.neg_tmod]; rfl
theorem neg_quo (k : Nat) : (-(k : Int)).tdiv 10 = -((k / 10 : Nat) : Int) := by rw [Int.neg_tdiv]; rfl
theorem dec_step {k z q : Nat} {l : List UInt8} {d : List UInt8} (hq : k % 10 = q) (hz : k / 10 = z) (h : Lib.decDigits k ++ l = d) (hb : ¬ k < 10) : Lib.decDigits z ++ (UInt8.ofNat (48 + q) :: l) = d := by
  rw [← h, dec_big hb, hq, hz, List.append_assoc]
  rfl
theorem dec_last {k q : Nat} {l : List UInt8} {d : List UInt8} (hq : k % 10 = q) (h : Lib.decDigits k ++ l = d) (hb : k < 10) : UInt8.ofNat (48 + q) :: l = d := by
  rw [← h, dec_small hb, ← hq, Nat.mod_eq_of_lt hb]
  rfl
theorem num_end {n : Int} {k q : Nat} {l : List UInt8} {X : ByteArray} (hit : Lib.itoa n = [45] ++ Lib.decDigits n.natAbs) (hq : k % 10 = q) (hd : Lib.decDigits k ++ l = Lib.decDigits n.natAbs) (hb : k < 10) (hX : X = ⟨#[UInt8.ofNat (48 + q)]⟩) :
    Ending.returned (.string ((⟨#[45]⟩ : ByteArray) ++ (X ++ ⟨l.toArray⟩))) = .returned (.string ⟨(Lib.itoa n).toArray⟩) := by
  rw [hX, bs_cons, bs_cons, hit, ← dec_last hq hd hb]
  rfl
theorem num_end' {n : Int} {k q : Nat} {l : List UInt8} {X : ByteArray} (hit : Lib.itoa n = [] ++ Lib.decDigits n.natAbs) (hq : k % 10 = q) (hd : Lib.decDigits k ++ l = Lib.decDigits n.natAbs) (hb : k < 10) (hX : X = ⟨#[UInt8.ofNat (48 + q)]⟩) :
    Ending.returned (.string (X ++ ⟨l.toArray⟩)) = .returned (.string ⟨(Lib.itoa n).toArray⟩) := by
  rw [hX, bs_cons, hit, ← dec_last hq hd hb]
  rfl
theorem num_rel {n x : Int} {k q z : Nat} {l : List UInt8} {X : ByteArray} (hq : k % 10 = q) (hz : k / 10 = z) (hd : Lib.decDigits k ++ l = Lib.decDigits n.natAbs) (hb : ¬ k < 10) (hX : X = ⟨#[UInt8.ofNat (48 + q)]⟩) (hx : x.natAbs = z) (h0 : -9223372036854775808 ≤ x) (h1 : x ≤ 9223372036854775807) :
    NRel n (.int .i64 x) (.string (X ++ ⟨l.toArray⟩)) :=
  ⟨x, _, rfl, by rw [hX, bs_cons], by rw [hx]; exact dec_step hq hz hd hb, h0, h1⟩
set_option maxHeartbeats 1000000 in
theorem number_any (w : World) (n : Int) (h0 : -9223372036854775808 ≤ n) (h1 : n ≤ 9223372036854775807) : Calls Tryd.prog 30 #[.int .i64 n] w fun e w' => e = .returned (.string ⟨(Lib.itoa n).toArray⟩) ∧ w = w' := by
  have hdl := dec_len n.natAbs (by omega)
  by_cases hn : n < 0
  all_goals
    have hit := itoa_split n
    first | rw [if_pos hn] at hit | rw [if_neg hn] at hit
    have HIT := Lib.hid hit
    have HDL := Lib.hid hdl
    clear hit hdl
    go_enter Tryd.func30, Tryd.ntmps30
    go_wp2_with fail
    go_loop [0, 3] (fun v s => NRel n v s) (fun v _ => (intOf v).natAbs)
    case atStart => exact ⟨n, [], rfl, rfl, by simp, h0, h1⟩
    case round =>
      obtain ⟨m, l, rfl, rfl, hd, hm0, hm1⟩ := hrel
      have hll : l.length ≤ 21 := by
        have e := congrArg List.length hd
        rw [List.length_append] at e
        have := HDL.out
        omega
      rcases Int.lt_or_le m 0 with hneg | hpos
      · obtain ⟨k, rfl⟩ : ∃ k : Nat, m = -(k : Int) := ⟨m.natAbs, by omega⟩
        rw [Int.natAbs_neg, Int.natAbs_natCast] at hd
        have hr := neg_rem k
        have hz := neg_quo k
        obtain ⟨q, hq⟩ : ∃ q, k % 10 = q := ⟨_, rfl⟩
        obtain ⟨z, hzq⟩ : ∃ z, k / 10 = z := ⟨_, rfl⟩
        rw [hq] at hr
        rw [hzq] at hz
        have ht := ten_digits q (by omega)
        have hk10 : k < 10 ↔ z = 0 := by omega
        have hkz : z < k := by omega
        have hql : (q : Int) < 10 := by omega
        have hzl : (z : Int) ≤ 922337203685477580 := by omega
        have HD := Lib.hid (And.intro hd (And.intro hq (And.intro hzq hk10)))
        clear hd hq hzq hk10
        rcases Nat.eq_zero_or_pos q with rfl | hq0
        all_goals rcases Nat.eq_zero_or_pos z with rfl | hz0
        all_goals
          go_wp2_with fail
          first
            | (go_ret; exact ⟨num_end HIT.out HD.out.2.1 HD.out.1 (by first | exact HD.out.2.2.2.2 rfl | exact HD.out.2.2.2.2 trivial) (by first | exact bs_zero | exact bs_digit _), rfl⟩)
            | (go_ret; exact ⟨num_end' HIT.out HD.out.2.1 HD.out.1 (by first | exact HD.out.2.2.2.2 rfl | exact HD.out.2.2.2.2 trivial) (by first | exact bs_zero | exact bs_digit _), rfl⟩)
            | (go_round
               case rel => exact num_rel HD.out.2.1 HD.out.2.2.1 HD.out.1 (fun h => Nat.ne_of_gt hz0 (HD.out.2.2.2.1 h)) (by first | exact bs_zero | exact bs_digit _) (by omega) (by omega) (by omega)
               case measure => simp [intOf]; omega)
      · obtain ⟨k, rfl⟩ : ∃ k : Nat, m = (k : Int) := ⟨m.natAbs, by omega⟩
        rw [Int.natAbs_natCast] at hd
        obtain ⟨q, hq⟩ : ∃ q, k % 10 = q := ⟨_, rfl⟩
        obtain ⟨z, hzq⟩ : ∃ z, k / 10 = z := ⟨_, rfl⟩
        have hr : (k : Int) % 10 = (q : Int) := by omega
        have hz : (k : Int) / 10 = (z : Int) := by omega
        have ht := ten_digits q (by omega)
        have hk10 : k < 10 ↔ z = 0 := by omega
        have hkz : 0 < z → z < k := by omega
        have hql : (q : Int) < 10 := by omega
        have hq00 : ¬ (q : Int) < 0 := by omega
        have hzl : (z : Int) ≤ 922337203685477580 := by omega
        have HD := Lib.hid (And.intro hd (And.intro hq (And.intro hzq hk10)))
        clear hd hq hzq hk10
        rcases Nat.eq_zero_or_pos q with rfl | hq0
        all_goals rcases Nat.eq_zero_or_pos z with rfl | hz0
        all_goals
          go_wp2_with fail
          first
            | (go_ret; exact ⟨num_end HIT.out HD.out.2.1 HD.out.1 (by first | exact HD.out.2.2.2.2 rfl | exact HD.out.2.2.2.2 trivial) (by first | exact bs_zero | exact bs_digit _), rfl⟩)
            | (go_ret; exact ⟨num_end' HIT.out HD.out.2.1 HD.out.1 (by first | exact HD.out.2.2.2.2 rfl | exact HD.out.2.2.2.2 trivial) (by first | exact bs_zero | exact bs_digit _), rfl⟩)
            | (go_round
               case rel => exact num_rel HD.out.2.1 HD.out.2.2.1 HD.out.1 (fun h => Nat.ne_of_gt hz0 (HD.out.2.2.2.1 h)) (by first | exact bs_zero | exact bs_digit _) (by omega) (by omega) (by omega)
               case measure => simp [intOf]; omega)

end Go.Proofs.YtodpojbgkeecnaaDoor
