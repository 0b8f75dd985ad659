/-
  Words of 32 bits: what the machine's operations on them are. Plain definitions and theorems; no condition.
-/
import Derived.Test.YtammomjnigalbaaDMem
import Derived.WalkSmall
set_option maxRecDepth 100000
set_option linter.unusedSimpArgs false
set_option linter.unusedVariables false
namespace Go.Proofs.Ytammomjnigalbaa
open Go.RowKit

abbrev B32 := BitVec 32
abbrev B8 := BitVec 8

/-- A word as the machine's number. -/
def nw (x : B32) : Int := (x.toNat : Int)
def nb (x : B8) : Int := (x.toNat : Int)
theorem nw_bound (x : B32) : 0 ≤ nw x ∧ nw x < 4294967296 := by
  have := x.isLt
  unfold nw
  omega
theorem nb_bound (x : B8) : 0 ≤ nb x ∧ nb x < 256 := by
  have := x.isLt
  unfold nb
  omega
theorem nw_inj {x y : B32} (h : nw x = nw y) : x = y := by
  unfold nw at h
  exact BitVec.eq_of_toNat_eq (by omega)
theorem nb_inj {x y : B8} (h : nb x = nb y) : x = y := by
  unfold nb at h
  exact BitVec.eq_of_toNat_eq (by omega)
theorem ofInt_nw (x : B32) : BitVec.ofInt 32 (nw x) = x := by unfold nw; simp
theorem ofInt_nb (x : B8) : BitVec.ofInt 8 (nb x) = x := by unfold nb; simp
theorem wrap_u32 (n : Int) : IntKind.u32.wrap n = nw (BitVec.ofInt 32 n) := by
  unfold nw
  rw [BitVec.toNat_ofInt]
  simp [IntKind.wrap, IntKind.signed, IntKind.bits]
  omega
theorem wrap_u8 (n : Int) : IntKind.u8.wrap n = nb (BitVec.ofInt 8 n) := by
  unfold nb
  rw [BitVec.toNat_ofInt]
  simp [IntKind.wrap, IntKind.signed, IntKind.bits]
  omega
theorem add_u32 (x y : B32) : IntKind.u32.wrap (nw x + nw y) = nw (x + y) := by
  rw [wrap_u32, BitVec.ofInt_add, ofInt_nw, ofInt_nw]
theorem xor_u32 (x y : B32) : bits .xor .u32 (nw x) (nw y) = nw (x ^^^ y) := by
  unfold bits
  simp only [IntKind.bits, ofInt_nw]
  exact (wrap_u32 _).trans (congrArg nw (ofInt_nw _))
theorem and_u32 (x y : B32) : bits .and .u32 (nw x) (nw y) = nw (x &&& y) := by
  unfold bits
  simp only [IntKind.bits, ofInt_nw]
  exact (wrap_u32 _).trans (congrArg nw (ofInt_nw _))
theorem or_u32 (x y : B32) : bits .or .u32 (nw x) (nw y) = nw (x ||| y) := by
  unfold bits
  simp only [IntKind.bits, ofInt_nw]
  exact (wrap_u32 _).trans (congrArg nw (ofInt_nw _))
theorem not_u32 (x : B32) : bits .xor .u32 IntKind.u32.max (nw x) = nw (~~~x) := by
  have : IntKind.u32.max = nw (BitVec.allOnes 32) := by decide
  rw [this, xor_u32, BitVec.allOnes_xor]
theorem shr_u32 (x : B32) (k : Nat) : (nw x).fdiv (2 ^ k) = nw (x >>> k) := by
  unfold nw
  rw [BitVec.toNat_ushiftRight, Nat.shiftRight_eq_div_pow, Int.fdiv_eq_ediv_of_nonneg _ (Int.le_of_lt (Int.pow_pos (by omega)))]
  norm_cast
theorem shl_u32 (x : B32) (k : Nat) : IntKind.u32.wrap (nw x * 2 ^ k) = nw (x <<< k) := by
  rw [wrap_u32, BitVec.shiftLeft_eq_mul_twoPow, BitVec.ofInt_mul, ofInt_nw]
  congr 2
  apply BitVec.eq_of_toNat_eq
  rw [BitVec.toNat_ofInt, BitVec.toNat_twoPow]
  norm_cast

theorem div_u32 (x : B32) (k : Nat) : nw x / 2 ^ k = nw (x >>> k) := by
  rw [← shr_u32, Int.fdiv_eq_ediv_of_nonneg _ (Int.le_of_lt (Int.pow_pos (by omega)))]
theorem div_3 (x : B32) : nw x / (8 : Int) = nw (x >>> 3) := div_u32 x 3
theorem div_8 (x : B32) : nw x / (256 : Int) = nw (x >>> 8) := div_u32 x 8
theorem div_10 (x : B32) : nw x / (1024 : Int) = nw (x >>> 10) := div_u32 x 10
theorem div_16 (x : B32) : nw x / (65536 : Int) = nw (x >>> 16) := div_u32 x 16
theorem div_24 (x : B32) : nw x / (16777216 : Int) = nw (x >>> 24) := div_u32 x 24
theorem low_u8 (x : B32) : IntKind.u8.wrap (nw x) = nb (x.setWidth 8) := by
  rw [wrap_u8]
  congr 1
theorem mod_u8 (x : B32) : nw x % 256 = nb (x.setWidth 8) := by
  rw [← low_u8]
  simp [IntKind.wrap, IntKind.signed, IntKind.bits]
/-- A byte as a word, moved to the left. -/
def up (b : B8) (k : Nat) : B32 := (b.setWidth 32) <<< k
theorem wide_u32 (b : B8) : nb b = nw (b.setWidth 32) := by
  unfold nb nw
  rw [BitVec.toNat_setWidth]
  have := b.isLt
  omega
theorem up_u32 (b : B8) (k : Nat) : IntKind.u32.wrap (nb b * 2 ^ k) = nw (up b k) := by
  rw [wide_u32, shl_u32]; rfl

/-- Turned to the right. -/
def rr (x : B32) (k : Nat) : B32 := (x <<< (32 - k)) ||| (x >>> k)
theorem rr_eq (x : B32) (k : Nat) : rr x k = (x <<< (32 - k)) ||| (x >>> k) := rfl

attribute [irreducible] nw nb up rr

end Go.Proofs.Ytammomjnigalbaa
