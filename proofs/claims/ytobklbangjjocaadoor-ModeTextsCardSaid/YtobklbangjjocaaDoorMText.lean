/-
  The document's Text, and Word. Condition of Word: the kinds' names are as their initialiser lays them.
-/
import Derived.Test.YtobklbangjjocaaDoorMCut
import Derived.Laws.Concat
import Derived.WalkSpells
set_option linter.unusedSimpArgs false
set_option linter.unusedVariables false
set_option maxRecDepth 100000
namespace Go.Proofs.YtobklbangjjocaaDoor
open Go.RowKit

theorem eight_digits : ∀ (q : Nat), q < 8 → ∀ (w : World), (Instr.sliceAt 9 (.string ⟨#[48, 49, 50, 51, 52, 53, 54, 55]⟩) (some (.int .i64 q)) (some (.int .i64 ((q : Int) + 1))) none).run Tryd.prog w = .ok (.string ⟨#[UInt8.ofNat (48 + q)]⟩) w
  | 0, _, w => by kernel_rfl
  | 1, _, w => by kernel_rfl
  | 2, _, w => by kernel_rfl
  | 3, _, w => by kernel_rfl
  | 4, _, w => by kernel_rfl
  | 5, _, w => by kernel_rfl
  | 6, _, w => by kernel_rfl
  | 7, _, w => by kernel_rfl
  | q + 8, h, _ => absurd h (by omega)
/-- Where the document's Text stands. -/
def TxAt (w : World) (a b c d : UInt8) (sv iv : Value) (wr : World) : Prop := Below w.heap.size w wr ∧
  ((sv = .string ⟨#[]⟩ ∧ iv = .int .i64 0) ∨ (sv = .string ⟨#[a]⟩ ∧ iv = .int .i64 1) ∨ (sv = .string ⟨#[a, b]⟩ ∧ iv = .int .i64 2) ∨ (sv = .string ⟨#[a, b, c]⟩ ∧ iv = .int .i64 3) ∨ (sv = .string ⟨#[a, b, c, d]⟩ ∧ iv = .int .i64 4))
theorem dig_of {m : Int} {q : Int} (h : q = m) (h0 : 0 ≤ m) (h1 : m ≤ 7) : ∃ n : Nat, n < 8 ∧ q = (n : Int) := ⟨m.toNat, by omega, by omega⟩
theorem st_eq {a b : ByteArray} (h : a = b) : Value.string a = .string b := by rw [h]
set_option maxHeartbeats 4000000 in
theorem rtext_any (w : World) (n : Int) : Calls Tryd.prog 10 #[.int .i64 n] w fun e w' => e = .returned (.string ⟨(modeText n).toArray⟩) ∧ Below w.heap.size w w' := by
  by_cases hn : 0 ≤ n ∧ n ≤ 4095
  · obtain ⟨h0, h1⟩ := hn
    obtain ⟨q0, l0, e0⟩ : ∃ q : Nat, q < 8 ∧ n / 512 % 8 = (q : Int) := ⟨(n / 512 % 8).toNat, by omega, by omega⟩
    obtain ⟨q1, l1, e1⟩ : ∃ q : Nat, q < 8 ∧ n / 64 % 8 = (q : Int) := ⟨(n / 64 % 8).toNat, by omega, by omega⟩
    obtain ⟨q2, l2, e2⟩ : ∃ q : Nat, q < 8 ∧ n / 8 % 8 = (q : Int) := ⟨(n / 8 % 8).toNat, by omega, by omega⟩
    obtain ⟨q3, l3, e3⟩ : ∃ q : Nat, q < 8 ∧ n % 8 = (q : Int) := ⟨(n % 8).toNat, by omega, by omega⟩
    have s0 := eight_digits q0 l0
    have s1 := eight_digits q1 l1
    have s2 := eight_digits q2 l2
    have s3 := eight_digits q3 l3
    have ht : modeText n = [UInt8.ofNat (48 + q0), UInt8.ofNat (48 + q1), UInt8.ofNat (48 + q2), UInt8.ofNat (48 + q3)] := by
      unfold modeText octL
      rw [if_pos ⟨h0, h1⟩]
      have a0 : n.toNat / 512 = q0 := by omega
      have a1 : n.toNat / 64 % 8 = q1 := by omega
      have a2 : n.toNat / 8 % 8 = q2 := by omega
      have a3 : n.toNat % 8 = q3 := by omega
      rw [a0, a1, a2, a3]
    obtain ⟨a, ha⟩ : ∃ a, UInt8.ofNat (48 + q0) = a := ⟨_, rfl⟩
    obtain ⟨b, hb⟩ : ∃ b, UInt8.ofNat (48 + q1) = b := ⟨_, rfl⟩
    obtain ⟨c, hc⟩ : ∃ c, UInt8.ofNat (48 + q2) = c := ⟨_, rfl⟩
    obtain ⟨d, hd⟩ : ∃ d, UInt8.ofNat (48 + q3) = d := ⟨_, rfl⟩
    rw [ha, hb, hc, hd] at ht
    rw [ha] at s0
    rw [hb] at s1
    rw [hc] at s2
    rw [hd] at s3
    rw [ht]
    have HN := Lib.hid (And.intro h0 (And.intro h1 (And.intro e0 (And.intro e1 (And.intro e2 e3)))))
    have HL := Lib.hid (And.intro l0 (And.intro l1 (And.intro l2 l3)))
    have m0 : (q0 : Int) ≤ 7 := by omega
    have m1 : (q1 : Int) ≤ 7 := by omega
    have m2 : (q2 : Int) ≤ 7 := by omega
    have m3 : (q3 : Int) ≤ 7 := by omega
    clear ha hb hc hd ht e0 e1 e2 e3 l0 l1 l2 l3
    go_enter Tryd.func10, Tryd.ntmps10
    go_wp2_with fail
    go_loopw [3, 4] (fun sv iv wr => TxAt w a b c d sv iv wr) (fun _ iv _ => 4 - (intOf iv).toNat)
    case atStart => exact ⟨Below.refl _ _, .inl ⟨rfl, rfl⟩⟩
    case round =>
      obtain ⟨hbel, ⟨rfl, rfl⟩ | ⟨rfl, rfl⟩ | ⟨rfl, rfl⟩ | ⟨rfl, rfl⟩ | ⟨rfl, rfl⟩⟩ := hrel
      · have HB := Lib.hid hbel
        clear hbel
        go_wp2_with fail
        with_reducible refine (digit0_any _ n HN.out.1 HN.out.2.1).mono ?_
        rintro e w1 ⟨rfl, h⟩
        rw [HN.out.2.2.1]
        have H1 := Lib.hid (HB.out.trans (h.mono HB.out.size))
        clear h
        go_wp2_with fail
        go_roundw
        case rel => exact ⟨H1.out, .inr (.inl ⟨st_eq (by rfl), rfl⟩)⟩
        case measure => simp [intOf]
      · have HB := Lib.hid hbel
        clear hbel
        go_wp2_with fail
        with_reducible refine (digit1_any _ n HN.out.1 HN.out.2.1).mono ?_
        rintro e w1 ⟨rfl, h⟩
        rw [HN.out.2.2.2.1]
        have H1 := Lib.hid (HB.out.trans (h.mono HB.out.size))
        clear h
        go_wp2_with fail
        go_roundw
        case rel => exact ⟨H1.out, .inr (.inr (.inl ⟨st_eq (by rfl), rfl⟩))⟩
        case measure => simp [intOf]
      · have HB := Lib.hid hbel
        clear hbel
        go_wp2_with fail
        with_reducible refine (digit2_any _ n HN.out.1 HN.out.2.1).mono ?_
        rintro e w1 ⟨rfl, h⟩
        rw [HN.out.2.2.2.2.1]
        have H1 := Lib.hid (HB.out.trans (h.mono HB.out.size))
        clear h
        go_wp2_with fail
        go_roundw
        case rel => exact ⟨H1.out, .inr (.inr (.inr (.inl ⟨st_eq (by rfl), rfl⟩)))⟩
        case measure => simp [intOf]
      · have HB := Lib.hid hbel
        clear hbel
        go_wp2_with fail
        with_reducible refine (digit3_any _ n HN.out.1 HN.out.2.1).mono ?_
        rintro e w1 ⟨rfl, h⟩
        rw [HN.out.2.2.2.2.2]
        have H1 := Lib.hid (HB.out.trans (h.mono HB.out.size))
        clear h
        go_wp2_with fail
        go_roundw
        case rel => exact ⟨H1.out, .inr (.inr (.inr (.inr ⟨st_eq (by rfl), rfl⟩)))⟩
        case measure => simp [intOf]
      · have HB := Lib.hid hbel
        clear hbel
        go_wp2_with fail
        go_ret
        exact ⟨rfl, HB.out⟩
  · have e : modeText n = [] := by unfold modeText; rw [if_neg hn]
    rw [e]
    by_cases n0 : n < 0
    · clear hn e
      go_enter Tryd.func10, Tryd.ntmps10
      go_wp2_with fail
      go_ret
      exact ⟨rfl, Below.refl _ _⟩
    · have n1 : 4095 < n := by omega
      clear hn e
      go_enter Tryd.func10, Tryd.ntmps10
      go_wp2_with fail
      go_ret
      exact ⟨rfl, Below.refl _ _⟩

/-- The kinds' names lie in their variable. -/
def Wd (w : World) : Prop := 0 < w.heap.size ∧ w.cell? ⟨0, 0, none⟩ = some (.string ⟨#[102, 105, 108, 101]⟩) ∧ w.cell? ⟨0, 1, none⟩ = some (.string ⟨#[100, 105, 114]⟩) ∧ w.cell? ⟨0, 2, none⟩ = some (.string ⟨#[108, 105, 110, 107]⟩) ∧
  w.cell? ⟨0, 3, none⟩ = some (.string ⟨#[100, 101, 118, 105, 99, 101]⟩) ∧ w.cell? ⟨0, 4, none⟩ = some (.string ⟨#[112, 105, 112, 101]⟩)
theorem Wd.below {w w' : World} (h : Wd w) (hb : Below w.heap.size w w') : Wd w' := by
  obtain ⟨hg, h0, h1, h2, h3, h4⟩ := h
  exact ⟨Nat.lt_of_lt_of_le hg hb.size, (hb.cell (p := ⟨0, 0, none⟩) hg).trans h0, (hb.cell (p := ⟨0, 1, none⟩) hg).trans h1, (hb.cell (p := ⟨0, 2, none⟩) hg).trans h2, (hb.cell (p := ⟨0, 3, none⟩) hg).trans h3, (hb.cell (p := ⟨0, 4, none⟩) hg).trans h4⟩
def wordB : Nat → ByteArray
  | 0 => ⟨#[102, 105, 108, 101]⟩
  | 1 => ⟨#[100, 105, 114]⟩
  | 2 => ⟨#[108, 105, 110, 107]⟩
  | 3 => ⟨#[100, 101, 118, 105, 99, 101]⟩
  | _ => ⟨#[112, 105, 112, 101]⟩
theorem word0 (w : World) (hW : Wd w) : Calls Tryd.prog 11 #[.int .i64 0] w fun e w' => e = .returned (.string ⟨#[102, 105, 108, 101]⟩) ∧ w = w' := by
  have hc := hW.2.1
  clear hW
  go_enter Tryd.func11, Tryd.ntmps11
  go_wp2_with (go_at_call 29; ((with_reducible refine (isKind_yes _ _ (by omega) (by omega)).mono ?_); rintro e w' ⟨rfl, rfl⟩))
  go_ret
  exact ⟨rfl, rfl⟩
theorem word1 (w : World) (hW : Wd w) : Calls Tryd.prog 11 #[.int .i64 1] w fun e w' => e = .returned (.string ⟨#[100, 105, 114]⟩) ∧ w = w' := by
  have hc := hW.2.2.1
  clear hW
  go_enter Tryd.func11, Tryd.ntmps11
  go_wp2_with (go_at_call 29; ((with_reducible refine (isKind_yes _ _ (by omega) (by omega)).mono ?_); rintro e w' ⟨rfl, rfl⟩))
  go_ret
  exact ⟨rfl, rfl⟩
theorem word2 (w : World) (hW : Wd w) : Calls Tryd.prog 11 #[.int .i64 2] w fun e w' => e = .returned (.string ⟨#[108, 105, 110, 107]⟩) ∧ w = w' := by
  have hc := hW.2.2.2.1
  clear hW
  go_enter Tryd.func11, Tryd.ntmps11
  go_wp2_with (go_at_call 29; ((with_reducible refine (isKind_yes _ _ (by omega) (by omega)).mono ?_); rintro e w' ⟨rfl, rfl⟩))
  go_ret
  exact ⟨rfl, rfl⟩
theorem word3 (w : World) (hW : Wd w) : Calls Tryd.prog 11 #[.int .i64 3] w fun e w' => e = .returned (.string ⟨#[100, 101, 118, 105, 99, 101]⟩) ∧ w = w' := by
  have hc := hW.2.2.2.2.1
  clear hW
  go_enter Tryd.func11, Tryd.ntmps11
  go_wp2_with (go_at_call 29; ((with_reducible refine (isKind_yes _ _ (by omega) (by omega)).mono ?_); rintro e w' ⟨rfl, rfl⟩))
  go_ret
  exact ⟨rfl, rfl⟩
theorem word4 (w : World) (hW : Wd w) : Calls Tryd.prog 11 #[.int .i64 4] w fun e w' => e = .returned (.string ⟨#[112, 105, 112, 101]⟩) ∧ w = w' := by
  have hc := hW.2.2.2.2.2
  clear hW
  go_enter Tryd.func11, Tryd.ntmps11
  go_wp2_with (go_at_call 29; ((with_reducible refine (isKind_yes _ _ (by omega) (by omega)).mono ?_); rintro e w' ⟨rfl, rfl⟩))
  go_ret
  exact ⟨rfl, rfl⟩
theorem word_no (w : World) (k : Int) (h : k < 0 ∨ 4 < k) : Calls Tryd.prog 11 #[.int .i64 k] w fun e w' => e = .returned (.string ⟨#[]⟩) ∧ w = w' := by
  have HK := Lib.hid h
  clear h
  go_enter Tryd.func11, Tryd.ntmps11
  go_wp2_with (go_at_call 29; ((with_reducible refine (isKind_no _ _ HK.out).mono ?_); rintro e w' ⟨rfl, rfl⟩))
  go_ret
  exact ⟨rfl, rfl⟩
end Go.Proofs.YtobklbangjjocaaDoor
