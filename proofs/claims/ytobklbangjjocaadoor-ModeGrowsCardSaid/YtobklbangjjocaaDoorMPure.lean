/-
  Modes, plainly: what is wrong with a stat, a mode's text and the mode of a text, who may, what is refused, numbers and cuts. Plain theorems, no condition but those in each.
-/
import Derived.WalkKit
import Derived.Laws.BitsAllLaws
set_option linter.unusedSimpArgs false
set_option linter.unusedVariables false
set_option maxRecDepth 100000
namespace Go.Proofs.YtobklbangjjocaaDoor
open Go.RowKit

/-- What is wrong with a stat. -/
def chk (k m o g : Int) : Int :=
  if k < 0 ∨ 4 < k then 17 else if m < 0 ∨ 4095 < m then 11 else if o < 0 ∨ 65535 < o ∨ g < 0 ∨ 65535 < g then 1 else 0
theorem chk_type {k m o g : Int} (h : k < 0 ∨ 4 < k) : chk k m o g = 17 := by unfold chk; rw [if_pos h]
theorem chk_mode {k m o g : Int} (h0 : 0 ≤ k) (h1 : k ≤ 4) (h : m < 0 ∨ 4095 < m) : chk k m o g = 11 := by unfold chk; rw [if_neg (by omega), if_pos h]
theorem chk_arg {k m o g : Int} (h0 : 0 ≤ k) (h1 : k ≤ 4) (h2 : 0 ≤ m) (h3 : m ≤ 4095) (h : o < 0 ∨ 65535 < o ∨ g < 0 ∨ 65535 < g) : chk k m o g = 1 := by unfold chk; rw [if_neg (by omega), if_neg (by omega), if_pos h]
theorem chk_ok {k m o g : Int} (h0 : 0 ≤ k) (h1 : k ≤ 4) (h2 : 0 ≤ m) (h3 : m ≤ 4095) (h4 : 0 ≤ o) (h5 : o ≤ 65535) (h6 : 0 ≤ g) (h7 : g ≤ 65535) : chk k m o g = 0 := by unfold chk; rw [if_neg (by omega), if_neg (by omega), if_neg (by omega)]
theorem chk_zero {k m o g : Int} (h : chk k m o g = 0) : (0 ≤ k ∧ k ≤ 4) ∧ (0 ≤ m ∧ m ≤ 4095) ∧ (0 ≤ o ∧ o ≤ 65535) ∧ 0 ≤ g ∧ g ≤ 65535 := by
  unfold chk at h
  split at h
  · omega
  · split at h
    · omega
    · split at h <;> omega
theorem chk_bd (k m o g : Int) : 0 ≤ chk k m o g ∧ chk k m o g ≤ 17 := by
  unfold chk
  split
  · omega
  · split
    · omega
    · split <;> omega

/-- A mode's text. -/
def octL (m : Nat) : List UInt8 := [UInt8.ofNat (48 + m / 512), UInt8.ofNat (48 + m / 64 % 8), UInt8.ofNat (48 + m / 8 % 8), UInt8.ofNat (48 + m % 8)]
def modeText (m : Int) : List UInt8 := if 0 ≤ m ∧ m ≤ 4095 then octL m.toNat else []
def parse8 (acc : Nat) : List UInt8 → Option Nat
  | [] => some acc
  | c :: r => if 48 ≤ c.toNat ∧ c.toNat ≤ 55 then parse8 (acc * 8 + (c.toNat - 48)) r else none
/-- The mode of a text. -/
def modeParse (l : List UInt8) : Option Nat := if l.length = 4 then parse8 0 l else none

theorem oct_digit (q : Nat) (h : q < 8) : (UInt8.ofNat (48 + q)).toNat = 48 + q := by simp; omega
theorem of_digit (c : UInt8) (h : 48 ≤ c.toNat) : UInt8.ofNat (48 + (c.toNat - 48)) = c := by
  rw [show 48 + (c.toNat - 48) = c.toNat by omega]
  simp
theorem modeText_len (m : Int) : (modeText m).length ≤ 4 := by unfold modeText; split <;> simp [octL]
theorem parse_oct (m : Nat) (h : m ≤ 4095) : modeParse (octL m) = some m := by
  have d0 := oct_digit (m / 512) (by omega)
  have d1 := oct_digit (m / 64 % 8) (by omega)
  have d2 := oct_digit (m / 8 % 8) (by omega)
  have d3 := oct_digit (m % 8) (by omega)
  unfold modeParse
  rw [if_pos (by simp [octL])]
  simp only [octL, parse8, d0, d1, d2, d3]
  rw [if_pos (by omega), if_pos (by omega), if_pos (by omega), if_pos (by omega)]
  congr 1
  omega
theorem oct_parse {l : List UInt8} {m : Nat} (h : modeParse l = some m) : m ≤ 4095 ∧ octL m = l := by
  unfold modeParse at h
  split at h
  · rename_i hl
    match l, hl with
    | [a, b, c, d], _ =>
      simp only [parse8] at h
      split at h
      · rename_i ha
        split at h
        · rename_i hb
          split at h
          · rename_i hc
            split at h
            · rename_i hd
              injection h with h
              refine ⟨by omega, ?_⟩
              unfold octL
              have e0 : m / 512 = a.toNat - 48 := by omega
              have e1 : m / 64 % 8 = b.toNat - 48 := by omega
              have e2 : m / 8 % 8 = c.toNat - 48 := by omega
              have e3 : m % 8 = d.toNat - 48 := by omega
              rw [e0, e1, e2, e3, of_digit a ha.1, of_digit b hb.1, of_digit c hc.1, of_digit d hd.1]
            · cases h
          · cases h
        · cases h
      · cases h
  · cases h
theorem parse_le {l : List UInt8} {m : Nat} (h : modeParse l = some m) : m ≤ 4095 := (oct_parse h).1
theorem text_parse {l : List UInt8} {m : Nat} (h : modeParse l = some m) : modeText m = l := by
  obtain ⟨h1, h2⟩ := oct_parse h
  unfold modeText
  rw [if_pos (by omega)]
  exact h2
theorem parse_text {m : Int} (h0 : 0 ≤ m) (h1 : m ≤ 4095) : modeParse (modeText m) = some m.toNat := by
  unfold modeText
  rw [if_pos ⟨h0, h1⟩]
  exact parse_oct _ (by omega)

/-! Bits of 64-bit numbers. -/
theorem wrap_back (x : BitVec 64) : IntKind.i64.wrap (x.toNat : Int) = x.toInt := by
  have h := x.isLt
  have e : ((x.toNat : Int) % 2 ^ 64) = x.toNat := by omega
  rw [BitVec.toInt_eq_toNat_cond]
  simp only [IntKind.wrap, IntKind.bits, IntKind.signed, e]
  by_cases h2 : 2 * x.toNat < 2 ^ 64
  · rw [if_pos h2, if_neg (by simp; omega)]
  · rw [if_neg h2, if_pos (by simp; omega)]
    simp
theorem and64 (a b : Int) : bits .and .i64 a b = (BitVec.ofInt 64 a &&& BitVec.ofInt 64 b).toInt := wrap_back _
theorem or64 (a b : Int) : bits .or .i64 a b = (BitVec.ofInt 64 a ||| BitVec.ofInt 64 b).toInt := wrap_back _
theorem andNot64 (a b : Int) : bits .andNot .i64 a b = (BitVec.ofInt 64 a &&& ~~~BitVec.ofInt 64 b).toInt := wrap_back _
theorem ofInt_nat {a : Int} (h0 : 0 ≤ a) (h1 : a ≤ 9223372036854775807) : (BitVec.ofInt 64 a).toNat = a.toNat := by
  obtain ⟨n, rfl⟩ := Int.eq_ofNat_of_zero_le h0
  rw [BitVec.ofInt_natCast, BitVec.toNat_ofNat, Int.toNat_natCast]
  exact Nat.mod_eq_of_lt (by omega)
theorem toInt_small {x : BitVec 64} (h : x.toNat < 9223372036854775808) : x.toInt = (x.toNat : Int) := by
  rw [BitVec.toInt_eq_toNat_cond]
  split
  · rfl
  · omega
theorem ofInt_toInt (x : BitVec 64) : BitVec.ofInt 64 x.toInt = x := by simp
theorem toInt_zero {x : BitVec 64} : x.toInt = 0 ↔ x = 0#64 := by
  constructor
  · intro h
    rw [← ofInt_toInt x, h]
    rfl
  · intro h
    rw [h]
    rfl

theorem ofInt_lit7 (d : Int) (h0 : 0 ≤ d) (h1 : d ≤ 7) : (BitVec.ofInt 64 d).toNat = d.toNat := ofInt_nat h0 (by omega)
theorem andNot_nat (a d : Nat) (ha : a < 9223372036854775808) (hd : d < 9223372036854775808) : bits .andNot .i64 (a : Int) (d : Int) = ((a &&& (18446744073709551615 - d) : Nat) : Int) := by
  rw [andNot64]
  have e : (BitVec.ofInt 64 (a : Int) &&& ~~~BitVec.ofInt 64 (d : Int)).toNat = a &&& (18446744073709551615 - d) := by
    rw [BitVec.toNat_and, BitVec.toNat_not, ofInt_nat (by omega) (by omega), ofInt_nat (by omega) (by omega)]
    simp
  have h := Nat.and_le_left (n := a) (m := 18446744073709551615 - d)
  rw [toInt_small (by rw [e]; omega), e]
theorem or_nat (a d : Nat) (ha : a < 9223372036854775808) (hd : d < 9223372036854775808) : bits .or .i64 (a : Int) (d : Int) = ((a ||| d : Nat) : Int) := by
  rw [or64]
  have e : (BitVec.ofInt 64 (a : Int) ||| BitVec.ofInt 64 (d : Int)).toNat = a ||| d := by
    rw [BitVec.toNat_or, ofInt_nat (by omega) (by omega), ofInt_nat (by omega) (by omega)]
    simp
  have h : a ||| d < 2 ^ 63 := Nat.or_lt_two_pow (by omega) (by omega)
  rw [toInt_small (by rw [e]; omega), e]
/-- The lowest bits, of any number. -/
theorem mask_any (a : Int) (i : Nat) (hi : i < 63) : bits .and .i64 a ((2 ^ i - 1 : Nat) : Int) = a % (2 ^ i : Nat) := by
  have hp : 0 < 2 ^ i := Nat.two_pow_pos i
  have h63 : 2 ^ i ≤ 2 ^ 62 := Nat.pow_le_pow_right (by omega) (by omega)
  rw [and64]
  have e : (BitVec.ofInt 64 a &&& BitVec.ofInt 64 ((2 ^ i - 1 : Nat) : Int)).toNat = (BitVec.ofInt 64 a).toNat % 2 ^ i := by
    rw [BitVec.toNat_and, ofInt_nat (a := ((2 ^ i - 1 : Nat) : Int)) (by omega) (by omega), Int.toNat_natCast, Nat.and_two_pow_sub_one_eq_mod]
  have hlt : (BitVec.ofInt 64 a).toNat % 2 ^ i < 2 ^ i := Nat.mod_lt _ hp
  rw [toInt_small (by rw [e]; omega), e]
  have e2 : (BitVec.ofInt 64 a).toNat = (a % (2 ^ 64 : Nat)).toNat := by simp [BitVec.toNat_ofInt]
  rw [e2]
  have h0 : 0 ≤ a % (2 ^ 64 : Nat) := Int.emod_nonneg _ (by decide)
  rw [Int.natCast_emod, Int.toNat_of_nonneg h0]
  exact Int.emod_emod_of_dvd _ (by exact_mod_cast Nat.pow_dvd_pow 2 (by omega))

/-! Who may. -/
/-- The bits that count for somebody. -/
def gr (m o g who group : Int) : Int := if who = 0 then 7 else if who = o then m / 64 % 8 else if group = g then m / 8 % 8 else m % 8
theorem gr_bd {m o g who group : Int} : 0 ≤ gr m o g who group ∧ gr m o g who group ≤ 7 := by
  unfold gr
  split
  · omega
  · split
    · omega
    · split <;> omega
/-- Has a digit all bits of another one? -/
def hasB (d w : Int) : Bool := !(decide (w / 4 % 2 = 1) && decide (d / 4 % 2 = 0)) && !(decide (w / 2 % 2 = 1) && decide (d / 2 % 2 = 0)) && !(decide (w / 1 % 2 = 1) && decide (d / 1 % 2 = 0))
theorem not_small : ∀ d : Nat, d < 8 → ∀ x : Nat, x < 8 → (bits .andNot .i64 (x : Int) (d : Int) = 0 ↔ hasB d x = true) := by decide +kernel
theorem not_big {x d : Int} (h0 : 0 ≤ d) (h1 : d ≤ 7) (hx0 : -9223372036854775808 ≤ x) (hx1 : x ≤ 9223372036854775807) (h : bits .andNot .i64 x d = 0) : 0 ≤ x ∧ x ≤ 7 := by
  rw [andNot64, toInt_zero] at h
  have e : BitVec.ofInt 64 x = BitVec.ofInt 64 x &&& BitVec.ofInt 64 d := by
    ext i hi
    have := congrArg (fun v => v.getLsbD i) h
    simp only [BitVec.getLsbD_and, BitVec.getLsbD_not, BitVec.getLsbD_zero, hi, decide_true, Bool.true_and] at this
    rw [BitVec.getElem_and]
    simp only [← BitVec.getLsbD_eq_getElem]
    cases ha : (BitVec.ofInt 64 x).getLsbD i <;> cases hb : (BitVec.ofInt 64 d).getLsbD i <;> simp_all
  have hle : (BitVec.ofInt 64 x).toNat ≤ 7 := by
    rw [e, BitVec.toNat_and, ofInt_nat h0 (by omega)]
    exact Nat.le_trans Nat.and_le_right (by omega)
  have e2 : (BitVec.ofInt 64 x).toNat = (x % (2 ^ 64 : Nat)).toNat := by simp [BitVec.toNat_ofInt]
  rw [e2] at hle
  have h3 : (x % ((2 ^ 64 : Nat) : Int)) = x % 18446744073709551616 := rfl
  rw [h3] at hle
  omega
theorem not_iff {x d : Int} (h0 : 0 ≤ d) (h1 : d ≤ 7) (hx0 : -9223372036854775808 ≤ x) (hx1 : x ≤ 9223372036854775807) : bits .andNot .i64 x d = 0 ↔ (0 ≤ x ∧ x ≤ 7) ∧ hasB d x = true := by
  constructor
  · intro h
    have hb := not_big h0 h1 hx0 hx1 h
    refine ⟨hb, ?_⟩
    obtain ⟨d, rfl⟩ := Int.eq_ofNat_of_zero_le h0
    obtain ⟨x, rfl⟩ := Int.eq_ofNat_of_zero_le hb.1
    exact (not_small d (by omega) x (by omega)).1 h
  · rintro ⟨hb, h⟩
    obtain ⟨d, rfl⟩ := Int.eq_ofNat_of_zero_le h0
    obtain ⟨x, rfl⟩ := Int.eq_ofNat_of_zero_le hb.1
    exact (not_small d (by omega) x (by omega)).2 h
theorem has_seven : ∀ x : Nat, x < 8 → hasB 7 x = true := by decide
theorem has_zero : ∀ d : Nat, d < 8 → hasB d 0 = true := by decide

def whoB (n : Int) : Bool := decide (0 ≤ n) && decide (n ≤ 65535)
def canB (k m o g who group : Int) (ws : List Int) : Bool :=
  decide (chk k m o g = 0) && whoB who && whoB group && ws.all fun x => decide (bits .andNot .i64 x (gr m o g who group) = 0)
def refCanB (k m o g who group w : Int) : Bool :=
  decide (chk k m o g = 0) && whoB who && whoB group && decide (0 ≤ w ∧ w ≤ 7) && (decide (who = 0) || hasB (gr m o g who group) w)
theorem ref_can {k m o g who group : Int} {x : Int} (hx0 : -9223372036854775808 ≤ x) (hx1 : x ≤ 9223372036854775807) :
    (decide (0 ≤ x ∧ x ≤ 7) && (decide (who = 0) || hasB (gr m o g who group) x)) = decide (bits .andNot .i64 x (gr m o g who group) = 0) := by
  have hb := @gr_bd m o g who group
  have hi := not_iff (x := x) hb.1 hb.2 hx0 hx1
  rw [Bool.eq_iff_iff]
  simp only [Bool.and_eq_true, Bool.or_eq_true, decide_eq_true_eq]
  rw [hi]
  constructor
  · rintro ⟨h1, h2 | h2⟩
    · refine ⟨h1, ?_⟩
      rw [show gr m o g who group = 7 by unfold gr; rw [if_pos h2]]
      obtain ⟨x, rfl⟩ := Int.eq_ofNat_of_zero_le h1.1
      exact has_seven x (by omega)
    · exact ⟨h1, h2⟩
  · rintro ⟨h1, h2⟩
    exact ⟨h1, .inr h2⟩
theorem all_mem {α : Type} {p q : α → Bool} : ∀ {l : List α}, (∀ x ∈ l, p x = q x) → l.all p = l.all q
  | [], _ => rfl
  | x :: l, h => by
    rw [List.all_cons, List.all_cons, h x List.mem_cons_self, all_mem fun y hy => h y (List.mem_cons_of_mem _ hy)]
theorem can_ref {k m o g who group : Int} {ws : List Int} (hw : ∀ x ∈ ws, -9223372036854775808 ≤ x ∧ x ≤ 9223372036854775807) :
    canB k m o g who group ws = (refCanB k m o g who group 0 && ws.all fun x => refCanB k m o g who group x) := by
  have e0 : refCanB k m o g who group 0 = (decide (chk k m o g = 0) && whoB who && whoB group) := by
    have hb := @gr_bd m o g who group
    unfold refCanB
    have : hasB (gr m o g who group) 0 = true := by
      obtain ⟨d, hd⟩ := Int.eq_ofNat_of_zero_le hb.1
      rw [hd]
      exact has_zero d (by omega)
    rw [this]
    simp
  rw [e0]
  unfold canB
  cases hc : (decide (chk k m o g = 0) && whoB who && whoB group) with
  | false => simp
  | true =>
    rw [Bool.true_and, Bool.true_and]
    refine all_mem fun x hx => ?_
    have := ref_can (k := k) (m := m) (o := o) (g := g) (who := who) (group := group) (hw x hx).1 (hw x hx).2
    unfold refCanB
    rw [hc, Bool.true_and, this]
theorem not_or : ∀ d : Nat, d < 8 → ∀ a : Nat, a < 8 → ∀ b : Nat, b < 8 → (decide (bits .andNot .i64 (bits .or .i64 (a : Int) (b : Int)) (d : Int) = 0) = (decide (bits .andNot .i64 (a : Int) (d : Int) = 0) && decide (bits .andNot .i64 (b : Int) (d : Int) = 0))) := by decide +kernel
theorem seven_all : ∀ a : Nat, a < 8 → bits .andNot .i64 (a : Int) 7 = 0 := by decide +kernel

/-! What is refused, and what is cut. -/
def cutL (m : Int) (ds : List Int) : Int := if 0 ≤ m ∧ m ≤ 4095 then ds.foldl (fun a d => bits .andNot .i64 a d) m else 0
/-- Neither setuid nor setgid; of a file or directory, neither the group nor all others may write. -/
def setB (m : Int) : Bool := decide (m / 512 % 8 > 1)
def wrB (m : Int) : Bool := hasB (m / 8 % 8) 2 || hasB (m / 1 % 8) 2
def refuse (k m o g : Int) : Int := if chk k m o g ≠ 0 then chk k m o g else if 2 < k then 17 else if setB m || (decide (k < 2) && wrB m) then 11 else 0
theorem cut_two : ∀ a : Nat, a < 64 → ∀ b : Nat, b < 64 → (((64 * a + b) &&& (18446744073709551615 - 2048)) &&& (18446744073709551615 - 1024) = 64 * a + b ↔ ¬ ((64 * a + b) / 512 % 8 > 1)) := by decide +kernel
theorem cut_four : ∀ a : Nat, a < 64 → ∀ b : Nat, b < 64 → (((((64 * a + b) &&& (18446744073709551615 - 16)) &&& (18446744073709551615 - 2)) &&& (18446744073709551615 - 2048)) &&& (18446744073709551615 - 1024) = 64 * a + b ↔ ¬ ((64 * a + b) / 512 % 8 > 1) ∧ ¬ ((64 * a + b) / 8 % 8 / 2 % 2 = 1) ∧ ¬ ((64 * a + b) % 8 / 2 % 2 = 1)) := by decide +kernel

theorem cut_step {m : Nat} {d : Nat} (hm : m ≤ 4095) (hd : d < 9223372036854775808) : bits .andNot .i64 (m : Int) (d : Int) = ((m &&& (18446744073709551615 - d) : Nat) : Int) := andNot_nat m d (by omega) hd
theorem cut_le {m d : Nat} (hm : m ≤ 4095) : m &&& d ≤ 4095 := Nat.le_trans Nat.and_le_left hm
theorem split64 {m : Nat} (h : m ≤ 4095) : ∃ a b, a < 64 ∧ b < 64 ∧ m = 64 * a + b := ⟨m / 64, m % 64, by omega, by omega, by omega⟩
/-- Without setuid and setgid. -/
theorem cut_two_int {m : Int} (h0 : 0 ≤ m) (h1 : m ≤ 4095) : cutL m [2048, 1024] = m ↔ setB m = false := by
  obtain ⟨n, rfl⟩ := Int.eq_ofNat_of_zero_le h0
  obtain ⟨a, b, ha, hb, rfl⟩ := split64 (m := n) (by omega)
  have h := cut_two a ha b hb
  unfold cutL
  rw [if_pos ⟨h0, h1⟩]
  simp only [List.foldl]
  rw [show (2048 : Int) = ((2048 : Nat) : Int) from rfl, show (1024 : Int) = ((1024 : Nat) : Int) from rfl]
  rw [cut_step (by omega) (by omega), cut_step (cut_le (by omega)) (by omega)]
  rw [Int.ofNat_inj, h]
  unfold setB
  rw [decide_eq_false_iff_not]
  have e : (((64 * a + b : Nat) : Int) / 512 % 8) = ((64 * a + b) / 512 % 8 : Nat) := by omega
  rw [e]
  omega
theorem wr_nat (n : Nat) : wrB (n : Int) = false ↔ ¬ (n / 8 % 8 / 2 % 2 = 1) ∧ ¬ (n % 8 / 2 % 2 = 1) := by
  have e1 : ∀ d : Nat, hasB (d : Int) 2 = !decide (d / 2 % 2 = 0) := by
    intro d
    unfold hasB
    have : ((d : Int) / 2 % 2 = 0) ↔ d / 2 % 2 = 0 := by omega
    simp [this]
  unfold wrB
  rw [show ((n : Int) / 8 % 8) = ((n / 8 % 8 : Nat) : Int) by omega, show ((n : Int) / 1 % 8) = ((n % 8 : Nat) : Int) by omega, e1, e1]
  simp
theorem cut_four_int {m : Int} (h0 : 0 ≤ m) (h1 : m ≤ 4095) : cutL (cutL m [16, 2]) [2048, 1024] = m ↔ setB m = false ∧ wrB m = false := by
  obtain ⟨n, rfl⟩ := Int.eq_ofNat_of_zero_le h0
  obtain ⟨a, b, ha, hb, rfl⟩ := split64 (m := n) (by omega)
  have h := cut_four a ha b hb
  have e1 : cutL ((64 * a + b : Nat) : Int) [16, 2] = (((64 * a + b) &&& (18446744073709551615 - 16)) &&& (18446744073709551615 - 2) : Nat) := by
    unfold cutL
    rw [if_pos ⟨h0, h1⟩]
    simp only [List.foldl]
    rw [show (16 : Int) = ((16 : Nat) : Int) from rfl, show (2 : Int) = ((2 : Nat) : Int) from rfl]
    rw [cut_step (by omega) (by omega), cut_step (cut_le (by omega)) (by omega)]
  rw [e1]
  have h2 : ((64 * a + b) &&& (18446744073709551615 - 16)) &&& (18446744073709551615 - 2) ≤ 4095 := cut_le (cut_le (by omega))
  generalize hc : ((64 * a + b) &&& (18446744073709551615 - 16)) &&& (18446744073709551615 - 2) = c at h h2 ⊢
  have e2 : cutL ((c : Nat) : Int) [2048, 1024] = ((c &&& (18446744073709551615 - 2048)) &&& (18446744073709551615 - 1024) : Nat) := by
    unfold cutL
    rw [if_pos ⟨by omega, by omega⟩]
    simp only [List.foldl]
    rw [show (2048 : Int) = ((2048 : Nat) : Int) from rfl, show (1024 : Int) = ((1024 : Nat) : Int) from rfl]
    rw [cut_step h2 (by omega), cut_step (cut_le h2) (by omega)]
  rw [e2, Int.ofNat_inj, h, wr_nat]
  unfold setB
  rw [decide_eq_false_iff_not]
  have e : (((64 * a + b : Nat) : Int) / 512 % 8) = ((64 * a + b) / 512 % 8 : Nat) := by omega
  rw [e]
  omega
theorem cutL_bd (m : Int) (ds : List Int) : 0 ≤ cutL m ds ∧ cutL m ds ≤ 4095 := by
  unfold cutL
  split
  · rename_i h
    have : ∀ (ds : List Int) (m : Int), 0 ≤ m ∧ m ≤ 4095 → 0 ≤ ds.foldl (fun a d => bits .andNot .i64 a d) m ∧ ds.foldl (fun a d => bits .andNot .i64 a d) m ≤ 4095 := by
      intro ds
      induction ds with
      | nil => exact fun _ h => h
      | cons d ds ih =>
        intro m hm
        refine ih _ ?_
        show 0 ≤ bits .andNot .i64 m d ∧ bits .andNot .i64 m d ≤ 4095
        rw [andNot64]
        have hle : (BitVec.ofInt 64 m &&& ~~~BitVec.ofInt 64 d).toNat ≤ m.toNat := by
          rw [BitVec.toNat_and, ofInt_nat hm.1 (by omega)]
          exact Nat.and_le_left
        rw [toInt_small (by omega)]
        omega
    exact this ds m h
  · omega
/-- One bit of a number. -/
theorem bit_of (a : Int) (k : Nat) (hk : k < 63) : bits .and .i64 a ((2 ^ k : Nat) : Int) = 0 ↔ (BitVec.ofInt 64 a).getLsbD k = false := by
  have hp : 2 ^ k ≤ 4611686018427387904 := Nat.pow_le_pow_right (i := k) (j := 62) (by omega : 0 < 2) (by omega)
  have e : BitVec.ofInt 64 ((2 ^ k : Nat) : Int) = BitVec.twoPow 64 k := by
    apply BitVec.eq_of_toNat_eq
    have hc : ((2 ^ k : Nat) : Int) ≤ 9223372036854775807 := by
      have : ((2 ^ k : Nat) : Int) ≤ ((4611686018427387904 : Nat) : Int) := Int.ofNat_le.2 hp
      omega
    rw [ofInt_nat (a := ((2 ^ k : Nat) : Int)) (Int.natCast_nonneg _) hc, BitVec.toNat_twoPow, Int.toNat_natCast, Nat.mod_eq_of_lt (by omega)]
  rw [and64, toInt_zero, e, BitVec.and_twoPow]
  cases h : (BitVec.ofInt 64 a).getLsbD k with
  | false => simp
  | true =>
    simp only [if_true, Bool.true_eq_false, iff_false]
    intro h0
    have := congrArg BitVec.toNat h0
    rw [BitVec.toNat_twoPow, Nat.mod_eq_of_lt (by omega)] at this
    have := Nat.two_pow_pos k
    simp at *
theorem fold_bit (k : Nat) (hk : k < 64) : ∀ (ds : List Int) (m : Int), (BitVec.ofInt 64 (ds.foldl (fun a d => bits .andNot .i64 a d) m)).getLsbD k = ((BitVec.ofInt 64 m).getLsbD k && !(ds.any fun d => (BitVec.ofInt 64 d).getLsbD k))
  | [], m => by simp
  | d :: ds, m => by
    rw [List.foldl_cons, fold_bit k hk ds, List.any_cons, andNot64, ofInt_toInt, BitVec.getLsbD_and, BitVec.getLsbD_not]
    cases (BitVec.ofInt 64 m).getLsbD k <;> cases (BitVec.ofInt 64 d).getLsbD k <;> simp [hk]
/-- What the law asks of one bit. -/
def bitB (a : Int) (k : Nat) : Bool := !decide (bits .and .i64 a ((2 ^ k : Nat) : Int) = 0)
theorem bitB_eq (a : Int) (k : Nat) (hk : k < 63) : bitB a k = (BitVec.ofInt 64 a).getLsbD k := by
  unfold bitB
  have := bit_of a k hk
  cases h : (BitVec.ofInt 64 a).getLsbD k <;> simp_all
theorem cut_bit {m : Int} (h0 : 0 ≤ m) (h1 : m ≤ 4095) (ds : List Int) (k : Nat) (hk : k < 63) : bitB (cutL m ds) k = (bitB m k && !(ds.any fun d => bitB d k)) := by
  unfold cutL
  rw [if_pos ⟨h0, h1⟩, bitB_eq _ k hk, bitB_eq _ k hk, fold_bit k (by omega)]
  congr 2
  induction ds with
  | nil => rfl
  | cons d ds ih => rw [List.any_cons, List.any_cons, ih, bitB_eq _ k hk]

/-! Stats as numbers. -/
theorem num_or {a b : Int} (i : Nat) (ha : 0 ≤ a) (h : a * 2 ^ i + b < 9223372036854775808) (hb0 : 0 ≤ b) (hb1 : b < 2 ^ i) : bits .or .i64 (a * 2 ^ i) b = a * 2 ^ i + b := by
  obtain ⟨n, rfl⟩ := Int.eq_ofNat_of_zero_le ha
  obtain ⟨c, rfl⟩ := Int.eq_ofNat_of_zero_le hb0
  have e : ((n : Int) * 2 ^ i) = ((n * 2 ^ i : Nat) : Int) := by simp
  rw [e] at h ⊢
  have hc : c < 2 ^ i := by exact_mod_cast hb1
  rw [or_nat _ _ (by omega) (by omega), nat_join i _ _ (by simp) hc]
  omega
def numS (k m o g : Int) : Int := k * 17592186044416 + m * 4294967296 + o * 65536 + g
theorem num_eq {k m o g : Int} (h : chk k m o g = 0) : bits .or .i64 (bits .or .i64 (bits .or .i64 (k * 17592186044416) (m * 4294967296)) (o * 65536)) g = numS k m o g := by
  obtain ⟨⟨k0, k1⟩, ⟨m0, m1⟩, ⟨o0, o1⟩, g0, g1⟩ := chk_zero h
  have e1 := num_or (a := k) (b := m * 4294967296) 44 (by omega) (by omega) (by omega) (by omega)
  have e2 := num_or (a := k * 4096 + m) (b := o * 65536) 32 (by omega) (by omega) (by omega) (by omega)
  have e3 := num_or (a := (k * 4096 + m) * 65536 + o) (b := g) 16 (by omega) (by omega) (by omega) (by omega)
  rw [show k * 17592186044416 = k * 2 ^ 44 by omega, e1, show k * 2 ^ 44 + m * 4294967296 = (k * 4096 + m) * 2 ^ 32 by omega, e2, show (k * 4096 + m) * 2 ^ 32 + o * 65536 = ((k * 4096 + m) * 65536 + o) * 2 ^ 16 by omega, e3]
  unfold numS
  omega
/-- The parts of a number. -/
def kOf (n : Int) : Int := n / 17592186044416
def mOf (n : Int) : Int := n / 4294967296 % 4096
def oOf (n : Int) : Int := n / 65536 % 65536
def gOf (n : Int) : Int := n % 65536
theorem num_of_parts (n : Int) : numS (kOf n) (mOf n) (oOf n) (gOf n) = n := by unfold numS kOf mOf oOf gOf; omega
theorem parts_of_num {k m o g : Int} (h : chk k m o g = 0) : kOf (numS k m o g) = k ∧ mOf (numS k m o g) = m ∧ oOf (numS k m o g) = o ∧ gOf (numS k m o g) = g := by
  obtain ⟨⟨k0, k1⟩, ⟨m0, m1⟩, ⟨o0, o1⟩, g0, g1⟩ := chk_zero h
  unfold numS kOf mOf oOf gOf
  omega
theorem mask12 (a : Int) : bits .and .i64 a 4095 = a % 4096 := mask_any a 12 (by omega)
theorem mask16 (a : Int) : bits .and .i64 a 65535 = a % 65536 := mask_any a 16 (by omega)
theorem mask3 (a : Int) : bits .and .i64 a 7 = a % 8 := mask_any a 3 (by omega)

/-! More bits. -/
theorem more_le (m e : Nat) (hm : m ≤ 4095) (he : e < 512) : m ||| e ≤ 4095 := by
  have : m ||| e < 2 ^ 12 := Nat.or_lt_two_pow (by omega) (by omega)
  omega
theorem more_at (m e i : Nat) : (m ||| e) / 2 ^ i % 8 = (m / 2 ^ i % 8) ||| (e / 2 ^ i % 8) := by
  rw [← Nat.shiftRight_eq_div_pow, ← Nat.shiftRight_eq_div_pow, ← Nat.shiftRight_eq_div_pow, Nat.shiftRight_or_distrib]
  rw [← nat_mask3, ← nat_mask3, ← nat_mask3, Nat.and_or_distrib_right]
theorem more_can : ∀ d : Nat, d < 8 → ∀ e : Nat, e < 8 → ∀ a : Nat, a < 8 → bits .andNot .i64 (a : Int) (d : Int) = 0 → bits .andNot .i64 (a : Int) ((d ||| e : Nat) : Int) = 0 := by decide +kernel
theorem gr_more {m e o g who group : Int} {a : Int} (hm0 : 0 ≤ m) (hm1 : m ≤ 4095) (he0 : 0 ≤ e) (he1 : e < 512) (ha0 : 0 ≤ a) (ha1 : a ≤ 7)
    (h : bits .andNot .i64 a (gr m o g who group) = 0) : bits .andNot .i64 a (gr (bits .or .i64 m e) o g who group) = 0 := by
  obtain ⟨n, rfl⟩ := Int.eq_ofNat_of_zero_le hm0
  obtain ⟨c, rfl⟩ := Int.eq_ofNat_of_zero_le he0
  obtain ⟨x, rfl⟩ := Int.eq_ofNat_of_zero_le ha0
  rw [or_nat _ _ (by omega) (by omega)]
  have key : ∀ i : Nat, bits .andNot .i64 (x : Int) ((n / 2 ^ i % 8 : Nat) : Int) = 0 → bits .andNot .i64 (x : Int) (((n ||| c) / 2 ^ i % 8 : Nat) : Int) = 0 := by
    intro i hi
    rw [more_at]
    exact more_can _ (by omega) _ (by omega) x (by omega) hi
  unfold gr at h ⊢
  split
  · rename_i hw
    rw [if_pos hw] at h
    exact h
  · rename_i hw
    rw [if_neg hw] at h
    split
    · rename_i h2
      rw [if_pos h2] at h
      exact key 6 h
    · rename_i h2
      rw [if_neg h2] at h
      split
      · rename_i h3
        rw [if_pos h3] at h
        exact key 3 h
      · rename_i h3
        rw [if_neg h3] at h
        have := key 0
        simp only [Nat.pow_zero, Nat.div_one] at this
        exact this h
end Go.Proofs.YtobklbangjjocaaDoor
