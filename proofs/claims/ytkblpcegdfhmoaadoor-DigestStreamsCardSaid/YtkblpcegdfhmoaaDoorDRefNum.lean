/-
  The document's table, plainly: digits, products, roots, primes; and that it is the program's own constants, reckoned by the kernel. No condition.
-/
import Derived.Test.YtkblpcegdfhmoaaDoorDRefSpec
import Derived.Test.YtkblpcegdfhmoaaDoorDKernel
namespace Go.Proofs.YtkblpcegdfhmoaaDoor
open Go.RowKit

def digs (y : Nat) : List Nat := [y % 65536, y / 65536 % 65536, y / 65536 / 65536 % 65536]
def mulIn (a b out : List Nat) (i : Nat) : Nat → List Nat × Nat
  | 0 => (out, 0)
  | k + 1 =>
    let r := mulIn a b out i k
    let n := r.1.getD (i + k) 0 + a.getD i 0 * b.getD k 0 + r.2
    (r.1.set (i + k) (n % 65536), n / 65536)
def mulOut (a b : List Nat) : Nat → List Nat
  | 0 => List.replicate (a.length + b.length) 0
  | i + 1 =>
    let r := mulIn a b (mulOut a b i) i b.length
    r.1.set (i + b.length) r.2
def prodN (a b : List Nat) : List Nat := mulOut a b a.length
def powD (y : Nat) : Nat → List Nat
  | 0 => digs y
  | k + 1 => prodN (powD y k) (digs y)
def wholeR (z : List Nat) (top : Nat) : Nat → Nat × Nat
  | 0 => (0, 0)
  | j + 1 =>
    let r := wholeR z top j
    let d := z.getD (z.length - 1 - j) 0
    if top ≤ z.length - 1 - j then (65536 * r.1 + d, r.2) else (r.1, r.2 + d)
def goodR (prime power y : Nat) : Bool :=
  let r := wholeR (powD y (power - 1)) (2 * power) (3 * power)
  decide (r.1 < prime) || (r.1 == prime && r.2 == 0)
def rootX (prime power : Nat) : Nat → Nat
  | 0 => 0
  | j + 1 =>
    let x := rootX prime power j
    let y := x + 2 ^ (36 - j)
    if goodR prime power y then y else x
def rootN (prime power : Nat) : Nat := rootX prime power 37 % 4294967296

/-- All digits are small. -/
def S16 (l : List Nat) : Prop := ∀ i, l.getD i 0 < 65536
theorem S16.set {l : List Nat} (h : S16 l) (j : Nat) {x : Nat} (hx : x < 65536) : S16 (l.set j x) := by
  intro i
  have := h i
  rw [List.getD_eq_getElem?_getD, List.getElem?_set] at *
  split
  · split
    · exact hx
    · simp
  · exact this
theorem S16.zeros (n : Nat) : S16 (List.replicate n 0) := by
  intro i
  rw [List.getD_eq_getElem?_getD, List.getElem?_replicate]
  split <;> simp
theorem S16.digs (y : Nat) : S16 (digs y) := by
  intro i
  match i with
  | 0 | 1 | 2 => simp [Go.Proofs.YtkblpcegdfhmoaaDoor.digs]; omega
  | i + 3 => simp [Go.Proofs.YtkblpcegdfhmoaaDoor.digs]
theorem mulIn_length (a b out : List Nat) (i : Nat) : ∀ k, (mulIn a b out i k).1.length = out.length
  | 0 => rfl
  | k + 1 => by simp [mulIn, mulIn_length a b out i k]
theorem mul_small {o a b c : Nat} (ho : o < 65536) (ha : a < 65536) (hb : b < 65536) (hc : c < 65536) : a * b ≤ 4294836225 ∧ o + a * b + c ≤ 4294967295 := by
  have h : a * b ≤ 65535 * 65535 := Nat.mul_le_mul (by omega) (by omega)
  omega
theorem mulIn_small {a b out : List Nat} (ha : S16 a) (hb : S16 b) (ho : S16 out) (i : Nat) : ∀ k, S16 (mulIn a b out i k).1 ∧ (mulIn a b out i k).2 < 65536
  | 0 => ⟨ho, by simp [mulIn]⟩
  | k + 1 => by
    obtain ⟨h1, h2⟩ := mulIn_small ha hb ho i k
    have := mul_small (h1 (i + k)) (ha i) (hb k) h2
    refine ⟨h1.set _ (by omega), ?_⟩
    simp only [mulIn]
    omega
theorem mulOut_length (a b : List Nat) : ∀ i, (mulOut a b i).length = a.length + b.length
  | 0 => by simp [mulOut]
  | i + 1 => by simp [mulOut, mulIn_length, mulOut_length a b i]
theorem mulOut_small {a b : List Nat} (ha : S16 a) (hb : S16 b) : ∀ i, S16 (mulOut a b i)
  | 0 => S16.zeros _
  | i + 1 => by
    have := mulIn_small ha hb (mulOut_small ha hb i) i b.length
    exact this.1.set _ this.2
theorem prodN_length (a b : List Nat) : (prodN a b).length = a.length + b.length := mulOut_length a b _
theorem prodN_small {a b : List Nat} (ha : S16 a) (hb : S16 b) : S16 (prodN a b) := mulOut_small ha hb _
theorem powD_length (y : Nat) : ∀ k, (powD y k).length = 3 + 3 * k
  | 0 => rfl
  | k + 1 => by
    rw [powD, prodN_length, powD_length y k]
    show 3 + 3 * k + 3 = _
    omega
theorem powD_small (y : Nat) : ∀ k, S16 (powD y k)
  | 0 => S16.digs y
  | k + 1 => prodN_small (powD_small y k) (S16.digs y)
theorem wholeR_small {z : List Nat} (hz : S16 z) (top : Nat) : ∀ j, j ≤ z.length → (wholeR z top j).1 < 65536 ^ (min j (z.length - top)) ∧ (wholeR z top j).2 ≤ 65536 * j
  | 0, _ => by simp [wholeR]
  | j + 1, hj => by
    obtain ⟨h1, h2⟩ := wholeR_small hz top j (by omega)
    have hd := hz (z.length - 1 - j)
    simp only [wholeR]
    split
    · refine ⟨?_, by show _ ≤ _; omega⟩
      have e : min (j + 1) (z.length - top) = j + 1 := by omega
      have e2 : min j (z.length - top) = j := by omega
      rw [e2] at h1
      rw [e, Nat.pow_succ]
      show 65536 * (wholeR z top j).1 + _ < _
      omega
    · refine ⟨?_, by show _ + _ ≤ _; omega⟩
      exact Nat.lt_of_lt_of_le h1 (Nat.pow_le_pow_right (by omega) (by omega))
theorem rootX_small (prime power : Nat) : ∀ j, j ≤ 37 → rootX prime power j + 2 ^ (37 - j) ≤ 137438953472
  | 0, _ => by simp [rootX]
  | j + 1, h => by
    have := rootX_small prime power j (by omega)
    have e : 2 ^ (37 - j) = 2 ^ (36 - j) + 2 ^ (36 - j) := by
      rw [show 37 - j = (36 - j) + 1 by omega, Nat.pow_succ]
      omega
    have hp := Nat.two_pow_pos (36 - j)
    simp only [rootX]
    rw [show 37 - (j + 1) = 36 - j by omega]
    split <;> omega

def divsN (p : Nat) : Nat → Nat
  | 0 => 0
  | j + 1 => divsN p j + if p % (j + 1) = 0 then 1 else 0
theorem divsN_le (p : Nat) : ∀ j, divsN p j ≤ j
  | 0 => by simp [divsN]
  | j + 1 => by
    have := divsN_le p j
    simp only [divsN]
    split <;> omega
def isP (p : Nat) : Bool := divsN p p == 2
/-- The primes of k numbers from 2 on. -/
def primesN : Nat → List Nat
  | 0 => []
  | k + 1 => if isP (k + 2) then primesN k ++ [k + 2] else primesN k
def padN (n : Nat) (l : List Nat) : List Nat := l ++ List.replicate (n - l.length) 0
def tabN (ps : List Nat) : List Nat := padN 8 ((ps.take 8).map fun p => rootN p 2) ++ padN 64 (ps.map fun p => rootN p 3)
def Vn (l : List Nat) : List Value := l.map fun (n : Nat) => .int .i64 n
theorem Vn_length (l : List Nat) : (Vn l).length = l.length := by simp [Vn]

set_option maxRecDepth 1000000 in
theorem primes_now : primesN 310 = [2, 3, 5, 7, 11, 13, 17, 19, 23, 29, 31, 37, 41, 43, 47, 53, 59, 61, 67, 71, 73, 79, 83, 89, 97, 101, 103, 107, 109, 113, 127, 131, 137, 139, 149, 151, 157, 163, 167, 173, 179, 181, 191, 193, 197, 199, 211, 223, 227, 229, 233, 239, 241, 251, 257, 263, 269, 271, 277, 281, 283, 293, 307, 311] := by decide +kernel
set_option maxRecDepth 1000000 in
theorem primes_less : (primesN 309).length = 63 := by decide +kernel
theorem primes_mono : ∀ k d, (primesN k).length ≤ (primesN (k + d)).length
  | _, 0 => Nat.le_refl _
  | k, d + 1 => by
    have := primes_mono k d
    rw [← Nat.add_assoc]
    simp only [primesN]
    split
    · rw [List.length_append]; omega
    · exact this
theorem primes_63 {k : Nat} (h : k ≤ 309) : (primesN k).length < 64 := by
  have := primes_mono k (309 - k)
  rw [show k + (309 - k) = 309 by omega, primes_less] at this
  omega

end Go.Proofs.YtkblpcegdfhmoaaDoor
