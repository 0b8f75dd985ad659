/-
  The document's words, as the machine's numbers of 64 bits: plain definitions and theorems. No condition.
-/
import Derived.Test.YtkblpcegdfhmoaaDoorDTurned
import Derived.Test.YtkblpcegdfhmoaaDoorDTurnSpec
namespace Go.Proofs.YtkblpcegdfhmoaaDoor
open Go.RowKit

/-- Words as cells of 64 bits. -/
def Wi (xs : List B32) : List Value := xs.map fun x => .int .i64 (nw x)
theorem Wi_length (xs : List B32) : (Wi xs).length = xs.length := by simp [Wi]
theorem Wi_get (xs : List B32) (i : Nat) : (Wi xs)[i]? = xs[i]?.map fun x => .int .i64 (nw x) := by simp [Wi]
theorem Wi_append (xs ys : List B32) : Wi (xs ++ ys) = Wi xs ++ Wi ys := by simp [Wi]
theorem Wi_oneCell (xs : List B32) : ∀ u ∈ Wi xs, u.oneCell' = true := by
  intro u hu
  simp only [Wi, List.mem_map] at hu
  obtain ⟨x, _, rfl⟩ := hu
  rfl
theorem Wi_getD {xs : List B32} {i : Nat} (h : i < xs.length) : (Wi xs)[i]? = some (.int .i64 (nw (xs.getD i 0))) := by
  rw [Wi_get, List.getD_eq_getElem?_getD, List.getElem?_eq_getElem h]
  rfl
theorem Wi_set (xs : List B32) (i : Nat) (x : B32) : (Wi xs).set i (.int .i64 (nw x)) = Wi (xs.set i x) := by
  unfold Wi
  rw [List.map_set]

theorem wrap_i64 {n : Int} (h : 0 ≤ n) (h2 : n < 9223372036854775808) : IntKind.i64.wrap n = n := by
  simp [IntKind.wrap, IntKind.signed, IntKind.bits]
  omega
theorem ofInt64_nw (x : B32) : BitVec.ofInt 64 (nw x) = x.setWidth 64 := by
  apply BitVec.eq_of_toNat_eq
  have := x.isLt
  unfold nw
  simp
theorem wrap64_nw (x : B32) (y : BitVec 64) (h : y = x.setWidth 64) : IntKind.i64.wrap (y.toNat : Int) = nw x := by
  have e : (y.toNat : Int) = nw x := by
    have := x.isLt
    rw [h]
    unfold nw
    rw [BitVec.toNat_setWidth]
    omega
  rw [e]
  exact wrap_i64 (nw_bound x).1 (by have := (nw_bound x).2; omega)
theorem xor_i64 (x y : B32) : bits .xor .i64 (nw x) (nw y) = nw (x ^^^ y) := by
  unfold bits
  simp only [IntKind.bits, ofInt64_nw]
  exact wrap64_nw _ _ (by rw [BitVec.setWidth_xor]; rfl)
theorem and_i64 (x y : B32) : bits .and .i64 (nw x) (nw y) = nw (x &&& y) := by
  unfold bits
  simp only [IntKind.bits, ofInt64_nw]
  exact wrap64_nw _ _ (by rw [BitVec.setWidth_and]; rfl)
theorem or_i64 (x y : B32) : bits .or .i64 (nw x) (nw y) = nw (x ||| y) := by
  unfold bits
  simp only [IntKind.bits, ofInt64_nw]
  exact wrap64_nw _ _ (by rw [BitVec.setWidth_or]; rfl)
theorem not_i64 (x : B32) : 4294967295 - nw x = nw (~~~x) := by
  have := x.isLt
  unfold nw
  rw [BitVec.toNat_not]
  omega
theorem and_zero (x y z : B32) : (x &&& y) &&& (~~~x &&& z) = 0#32 := by
  ext i hi
  simp
  cases x[i] <;> simp
theorem pick_sum (x y z : B32) : nw (x &&& y) + nw (~~~x &&& z) = nw ((x &&& y) ^^^ (~~~x &&& z)) := by
  have h := and_zero x y z
  have e1 : (x &&& y) + (~~~x &&& z) = (x &&& y) ||| (~~~x &&& z) := BitVec.add_eq_or_of_and_eq_zero _ _ h
  have e2 : (x &&& y) ^^^ (~~~x &&& z) = (x &&& y) ||| (~~~x &&& z) := by
    ext i hi
    simp
    cases x[i] <;> simp
  have hn : (x &&& y).toNat + (~~~x &&& z).toNat < 4294967296 := by
    have hx : (x &&& y).toNat ≤ x.toNat := by rw [BitVec.toNat_and]; exact Nat.and_le_left
    have hz : (~~~x &&& z).toNat ≤ (~~~x).toNat := by rw [BitVec.toNat_and]; exact Nat.and_le_left
    rw [BitVec.toNat_not] at hz
    have := x.isLt
    omega
  rw [e2, ← e1]
  unfold nw
  rw [BitVec.toNat_add]
  omega
theorem most_or (x y z : B32) : (x &&& y) ||| (x &&& z) ||| (y &&& z) = (x &&& y) ^^^ (x &&& z) ^^^ (y &&& z) := by
  ext i hi
  simp
  cases x[i] <;> cases y[i] <;> cases z[i] <;> rfl
theorem mod_nw (n : Int) : n % 4294967296 = nw (BitVec.ofInt 32 n) := by
  rw [← wrap_u32]
  simp [IntKind.wrap, IntKind.signed, IntKind.bits]

/-- The words that lie there behind k steps of the first loop. -/
def schedN (bs : List B8) (k : Nat) : List B32 := if k < 16 then own16 bs k else more (own16 bs 16) (k - 16)
theorem schedN_length (bs : List B8) (k : Nat) : (schedN bs k).length = k := by
  unfold schedN
  split
  · exact own16_length bs k
  · rw [more_length, own16_length]; omega
theorem schedN_own (bs : List B8) {k : Nat} (hk : k < 16) : schedN bs (k + 1) = schedN bs k ++ [word4 bs k] := by
  unfold schedN
  rw [if_pos hk]
  split
  · rfl
  · obtain rfl : k = 15 := by omega
    rfl
theorem schedN_more (bs : List B8) {k : Nat} (hk : 16 ≤ k) : schedN bs (k + 1) = schedN bs k ++ [(schedN bs k).getD (k - 16) 0 + far ((schedN bs k).getD (k - 15) 0) + (schedN bs k).getD (k - 7) 0 + near ((schedN bs k).getD (k - 2) 0)] := by
  have hl := schedN_length bs k
  unfold schedN at hl ⊢
  rw [if_neg (by omega), if_neg (by omega)] at *
  have e : k + 1 - 16 = (k - 16) + 1 := by omega
  rw [e, more, nextW, hl]
theorem schedN_all (bs : List B8) : schedN bs 64 = sched bs := rfl
def parti (l : List B32) : List Value := Wi l ++ List.replicate (64 - l.length) (.int .i64 0)
theorem parti_length {l : List B32} (h : l.length ≤ 64) : (parti l).length = 64 := by simp [parti, Wi_length]; omega
theorem parti_set {l : List B32} (h : l.length < 64) (x : B32) : (parti l).set l.length (.int .i64 (nw x)) = parti (l ++ [x]) := by
  unfold parti
  rw [List.set_append_right _ _ (by rw [Wi_length]; omega), Wi_length, Nat.sub_self, Wi_append]
  obtain ⟨m, hm⟩ : ∃ m, 64 - l.length = m + 1 := ⟨64 - l.length - 1, by omega⟩
  rw [hm, List.replicate_succ, List.set_cons_zero, List.append_assoc]
  have : 64 - (l ++ [x]).length = m := by simp; omega
  rw [this]
  rfl
theorem parti_get {l : List B32} {i : Nat} (h : i < l.length) : (parti l)[i]? = some (.int .i64 (nw (l.getD i 0))) := by
  unfold parti
  rw [List.getElem?_append_left (by rw [Wi_length]; omega), Wi_getD h]
theorem parti_next {l : List B32} (h : l.length < 64) : (parti l)[l.length]? = some (.int .i64 0) := by
  unfold parti
  rw [List.getElem?_append_right (by rw [Wi_length]; omega), Wi_length, Nat.sub_self, List.getElem?_replicate]
  rw [if_pos (by omega)]
theorem parti_whole (l : List B32) (h : l.length = 64) : parti l = Wi l := by simp [parti, h]

theorem word_sum (b0 b1 b2 b3 : B8) : nb b0 * 16777216 + nb b1 * 65536 + nb b2 * 256 + nb b3 = nw (up b0 24 ||| up b1 16 ||| up b2 8 ||| b3.setWidth 32) := by
  have h0 := b0.isLt
  have h1 := b1.isLt
  have h2 := b2.isLt
  have h3 := b3.isLt
  have e : (up b0 24 ||| up b1 16 ||| up b2 8 ||| b3.setWidth 32).toNat = b0.toNat * 16777216 + b1.toNat * 65536 + b2.toNat * 256 + b3.toNat := by
    unfold up
    simp only [BitVec.toNat_or, BitVec.toNat_shiftLeft, BitVec.toNat_setWidth, Nat.shiftLeft_eq]
    rw [Nat.mod_eq_of_lt (a := b0.toNat) (by omega), Nat.mod_eq_of_lt (a := b1.toNat) (by omega), Nat.mod_eq_of_lt (a := b2.toNat) (by omega), Nat.mod_eq_of_lt (a := b3.toNat) (by omega)]
    rw [Nat.mod_eq_of_lt (a := b0.toNat * 2 ^ 24) (by omega), Nat.mod_eq_of_lt (a := b1.toNat * 2 ^ 16) (by omega), Nat.mod_eq_of_lt (a := b2.toNat * 2 ^ 8) (by omega)]
    rw [Nat.mul_comm b0.toNat, ← Nat.two_pow_add_eq_or_of_lt (i := 24) (b := b1.toNat * 2 ^ 16) (by omega)]
    have f1 : 2 ^ 24 * b0.toNat + b1.toNat * 2 ^ 16 = 2 ^ 16 * (256 * b0.toNat + b1.toNat) := by omega
    rw [f1, ← Nat.two_pow_add_eq_or_of_lt (i := 16) (b := b2.toNat * 2 ^ 8) (by omega)]
    have f2 : 2 ^ 16 * (256 * b0.toNat + b1.toNat) + b2.toNat * 2 ^ 8 = 2 ^ 8 * (256 * (256 * b0.toNat + b1.toNat) + b2.toNat) := by omega
    rw [f2, ← Nat.two_pow_add_eq_or_of_lt (i := 8) (b := b3.toNat) (by omega)]
    first | done | omega
  unfold nw nb
  rw [e]
  omega

end Go.Proofs.YtkblpcegdfhmoaaDoor
