/-
  The document's own Frame. Condition: the texts are known, of at most 300 bytes.
-/
import Derived.Test.YtlpljedacohngaaGreatDoorM7
import Derived.Test.YtlpljedacohngaaGreatDoorM4
import Derived.Deep.RegionHeld3
section
set_option maxRecDepth 100000
set_option linter.unusedSimpArgs false
set_option linter.unusedVariables false
namespace Go.Proofs.YtlpljedacohngaaGreatDoor
open Go.RowKit

theorem fr_small (n : Nat) (hn : n ≤ 1000) : [Value.int .u8 ((n : Int) / 16777216), .int .u8 ((n : Int) / 65536), .int .u8 ((n : Int) / 256), .int .u8 ((n : Int) % 256)] = Vb (fr n) := by
  rw [← fr_cells n (by omega)]
  have h1 : (n : Int) / 65536 = (n : Int) / 65536 % 256 := by omega
  have h2 : (n : Int) / 256 = (n : Int) / 256 % 256 := by omega
  rw [← h1, ← h2]
theorem four_one (a b c d : Int) : ∀ u ∈ [Value.int .u8 a, .int .u8 b, .int .u8 c, .int .u8 d], u.oneCell' = true := by
  intro u hu
  simp only [List.mem_cons, List.not_mem_nil, or_false] at hu
  rcases hu with rfl | rfl | rfl | rfl <;> rfl
theorem new_row (w : World) (cs : List Value) (t : TypeId) : ∀ j u, cs[j]? = some u → (w.alloc (.cells cs.toArray t)).cell? ((⟨w.heap.size, 0, none⟩ : Addr).add j) = some u := by
  intro j u hu
  rw [Addr.add_mid, Nat.zero_add, (Blk.new w t cs).cell j, hu]

set_option maxHeartbeats 400000 in
set_option maxRecDepth 100000 in
theorem frame_ref_1k (w : World) (L : Option Addr) (n c : Nat) (xs : List (List B8)) (ht : TxtsN w w.heap.size L n xs) (hn : n ≤ 40) (hsm : ∀ x ∈ xs, x.length ≤ 1000) :
    Calls Tryz.prog 32 #[.slice L n c] w fun e w' => ∃ v, e = .returned v ∧ w'.ownsRow w.heap.size 5 1 v (framesOf xs).length (Vb (framesOf xs)) ∧ Below w.heap.size w w' := by
  obtain ⟨i0, hi, hz0, hz1, hz2⟩ := info_parts (show (Tryz.prog.info? 5).map (fun i => (i.zero, i.size, i.bytes)) = some (some (.int .u8 0), 1, 1) by kernel_rfl)
  have HI := Lib.hid (And.intro hi (And.intro hz0 (And.intro hz1 hz2)))
  have HT := Lib.hid (And.intro ht hsm)
  clear hi hz0 hz1 hz2 ht hsm
  go_enter Tryz.func32, Tryz.ntmps32
  go_wp2_with fail
  go_loopw [4, 3] (fun i v wr => ∃ k : Nat, k ≤ n ∧ i = .int .i64 k ∧ wr.ownsRow w.heap.size 5 1 v (framesOf (xs.take k)).length (Vb (framesOf (xs.take k))) ∧ Below w.heap.size w wr) (fun i _ _ => n - (intOf i).toNat)
  case atStart => exact ⟨0, by omega, rfl, World.ownsRow_nil _ _ _ _, Below.refl _ _⟩
  case round =>
    obtain ⟨k, hk, rfl, hown, hbel⟩ := hrel
    have hl := HT.out.1.len
    have hsk := frames_small_take_1k xs HT.out.2 k (by omega)
    by_cases hkn : k < n
    · obtain ⟨g, o, rfl, hgp, hc⟩ := HT.out.1.cells (by omega)
      obtain ⟨A, m, cc, hcell, htx⟩ := hc k (xs[k]'(by omega)) (List.getElem?_eq_getElem _)
      have hgs : g < w.heap.size := World.block_lt_of_cell? w _ hcell
      have hft := frames_take (X := xs) (k := k) (List.getElem?_eq_getElem (by omega))
      have hm3 := HT.out.2 _ (List.getElem_mem (l := xs) (n := k) (by omega))
      generalize xs[k]'(by omega) = x at htx hft hm3
      have hml := htx.txt.len
      rw [hml] at hm3 hft
      have hcw := (hbel.cell (p := ⟨g, o + k, none⟩) hgs).trans hcell
      have HO := Lib.hid (And.intro hown (And.intro hbel (And.intro htx (And.intro hft hcell))))
      have HS := Lib.hid hsk
      clear hown hbel htx hft hc hcell hsk
      match A, HO with
      | none, HO =>
        obtain ⟨rfl, rfl⟩ := HO.out.2.2.1.nil rfl
        obtain rfl := List.eq_nil_of_length_eq_zero hml
        go_wp2_with (first
          | (at_builtin; refine wpList_append_own _ rfl (.tmp 17) (.tmp 29) 22 rfl w.heap.size 5 i0 (.int .u8 0) 1 1 Tryz.underlying22 HI.out.1 HI.out.2.1 HI.out.2.2.1 HI.out.2.2.2 rfl (by decide) u3 (framesOf (xs.take k)).length (Vb (framesOf (xs.take k))) rfl (HO.out.1.alloc _) ⟨wr.heap.size, 0, none⟩ 4 4 _ rfl rfl (new_row wr [_, _, _, _] 5) (four_one _ _ _ _) (by have := HS.out; unfold maxLen; omega) (by have := HS.out; omega) (by have := HO.out.2.1.size; simp; omega) ?_; intro v2 w2 ho2 hg2 _; have HB2 := Lib.hid ((HO.out.2.1.alloc HO.out.2.1.size _).grown hg2 (by have := HO.out.2.1.size; simp; omega) (fun q hq => own_ge HO.out.1 q hq)); have HA2 := Lib.hid ho2; have hcw2 := (HB2.out.cell (p := ⟨g, o + k, none⟩) hgs).trans HO.out.2.2.2.2; clear ho2 hg2)
          | (at_builtin; go_loud (refine wpList_append_own_none rfl (.tmp 31) (.tmp 35) 22 rfl w.heap.size 5 i0 1 Tryz.underlying22 HI.out.1 v2 _ _ rfl HA2.out rfl ?_)))
        go_roundw
        case rel =>
          refine ⟨k + 1, by omega, by go_num, ?_, HB2.out⟩
          have e : [Value.int .u8 0, .int .u8 0, .int .u8 0, .int .u8 0] = Vb (fr 0) := fr_small 0 (by omega)
          rw [HO.out.2.2.2.1, List.append_nil, List.length_append, Vb_append, ← e]
          exact HA2.out
        case measure => simp [intOf]; omega
      | some a, HO =>
        go_wp2_with (first
          | (at_builtin; refine wpList_append_own _ rfl (.tmp 17) (.tmp 29) 22 rfl w.heap.size 5 i0 (.int .u8 0) 1 1 Tryz.underlying22 HI.out.1 HI.out.2.1 HI.out.2.2.1 HI.out.2.2.2 rfl (by decide) u3 (framesOf (xs.take k)).length (Vb (framesOf (xs.take k))) rfl (HO.out.1.alloc _) ⟨wr.heap.size, 0, none⟩ 4 4 _ rfl rfl (new_row wr [_, _, _, _] 5) (four_one _ _ _ _) (by have := HS.out; unfold maxLen; omega) (by have := HS.out; omega) (by have := HO.out.2.1.size; simp; omega) ?_; intro v2 w2 ho2 hg2 _; have HB2 := Lib.hid ((HO.out.2.1.alloc HO.out.2.1.size _).grown hg2 (by have := HO.out.2.1.size; simp; omega) (fun q hq => own_ge HO.out.1 q hq)); have HA2 := Lib.hid ho2; have hcw2 := (HB2.out.cell (p := ⟨g, o + k, none⟩) hgs).trans HO.out.2.2.2.2; clear ho2 hg2)
          | (at_builtin; go_loud (refine wpList_append_own _ rfl (.tmp 31) (.tmp 35) 22 rfl w.heap.size 5 i0 (.int .u8 0) 1 1 Tryz.underlying22 HI.out.1 HI.out.2.1 HI.out.2.2.1 HI.out.2.2.2 rfl (by decide) v2 _ _ rfl HA2.out a m cc (Vb x) rfl (by rw [Vb_length]; omega) (txt_cells (HO.out.2.2.1.txt.below HB2.out (Nat.le_refl _))) (Vb_oneCell _) (by have := HS.out; unfold maxLen; omega) (by have := HS.out; omega) HB2.out.size ?_); intro v3 w3 ho3 hg3 _))
        go_roundw
        case rel =>
          refine ⟨k + 1, by omega, by go_num, ?_, HB2.out.grown hg3 HB2.out.size (fun q hq => own_ge HA2.out q hq)⟩
          rw [fr_small m hm3] at ho3
          rw [HO.out.2.2.2.1, List.length_append, List.length_append, Vb_append, Vb_append, hml]
          exact ho3
        case measure => simp [intOf]; omega
    · obtain rfl : k = n := by omega
      rw [List.take_of_length_le (by omega)] at hown
      go_wp2_with fail
      go_ret
      exact ⟨_, rfl, hown, hbel⟩

theorem frame_ref (w : World) (L : Option Addr) (n c : Nat) (xs : List (List B8)) (ht : TxtsN w w.heap.size L n xs) (hn : n ≤ 40) (hsm : ∀ x ∈ xs, x.length ≤ 300) :
    Calls Tryz.prog 32 #[.slice L n c] w fun e w' => ∃ v, e = .returned v ∧ w'.ownsRow w.heap.size 5 1 v (framesOf xs).length (Vb (framesOf xs)) ∧ Below w.heap.size w w' :=
  frame_ref_1k w L n c xs ht hn (fun x hx => Nat.le_trans (hsm x hx) (by omega))
end Go.Proofs.YtlpljedacohngaaGreatDoor
end

/-
  The document's turned: a word's bits, to the right. Condition: 1 to 31 bits.
-/

section
set_option maxRecDepth 100000
set_option linter.unusedSimpArgs false
set_option linter.unusedVariables false
namespace Go.Proofs.YtlpljedacohngaaGreatDoor
open Go.RowKit

theorem rr_nat (x : B32) (n : Nat) (hn : n ≤ 32) : (rr x n).toNat = x.toNat / 2 ^ n + x.toNat % 2 ^ n * 2 ^ (32 - n) := by
  have hx := x.isLt
  have h32 : (2 : Nat) ^ 32 = 2 ^ n * 2 ^ (32 - n) := by rw [← Nat.pow_add]; congr 1; omega
  rw [rr_eq, BitVec.toNat_or, BitVec.toNat_shiftLeft, BitVec.toNat_ushiftRight, Nat.shiftLeft_eq, Nat.shiftRight_eq_div_pow]
  have e : x.toNat * 2 ^ (32 - n) % 2 ^ 32 = 2 ^ (32 - n) * (x.toNat % 2 ^ n) := by
    rw [h32, Nat.mul_mod_mul_right, Nat.mul_comm]
  have hl : x.toNat / 2 ^ n < 2 ^ (32 - n) := by
    rw [Nat.div_lt_iff_lt_mul (Nat.two_pow_pos n), Nat.mul_comm, ← h32]
    exact hx
  rw [e, ← Nat.two_pow_add_eq_or_of_lt hl, Nat.mul_comm (2 ^ (32 - n)), Nat.add_comm]
theorem rr_int (x : B32) (n : Nat) (hn : n ≤ 32) : nw x / 2 ^ n + nw x % 2 ^ n * 2 ^ (32 - n) = nw (rr x n) := by
  have h := rr_nat x n hn
  unfold nw
  rw [h]
  norm_cast

theorem turned_7 (w : World) (x : B32) : Calls Tryz.prog 52 #[.int .i64 (nw x), .int .i64 7] w fun e w' => e = .returned (.int .i64 (nw (rr x 7))) ∧ ∃ k, w' = w.drewN k := by
  have hx := nw_bound x
  have hr : nw x / 128 + nw x % 128 * 33554432 = nw (rr x 7) := rr_int x 7 (by omega)
  go_enter Tryz.func52, Tryz.ntmps52
  go_wp2_with fail
  go_quiet (fail)
  go_wp2_with fail
  go_ret
  exact ⟨rfl, _, rfl⟩
theorem turned_18 (w : World) (x : B32) : Calls Tryz.prog 52 #[.int .i64 (nw x), .int .i64 18] w fun e w' => e = .returned (.int .i64 (nw (rr x 18))) ∧ ∃ k, w' = w.drewN k := by
  have hx := nw_bound x
  have hr : nw x / 262144 + nw x % 262144 * 16384 = nw (rr x 18) := rr_int x 18 (by omega)
  go_enter Tryz.func52, Tryz.ntmps52
  go_wp2_with fail
  go_quiet (fail)
  go_wp2_with fail
  go_ret
  exact ⟨rfl, _, rfl⟩
theorem turned_17 (w : World) (x : B32) : Calls Tryz.prog 52 #[.int .i64 (nw x), .int .i64 17] w fun e w' => e = .returned (.int .i64 (nw (rr x 17))) ∧ ∃ k, w' = w.drewN k := by
  have hx := nw_bound x
  have hr : nw x / 131072 + nw x % 131072 * 32768 = nw (rr x 17) := rr_int x 17 (by omega)
  go_enter Tryz.func52, Tryz.ntmps52
  go_wp2_with fail
  go_quiet (fail)
  go_wp2_with fail
  go_ret
  exact ⟨rfl, _, rfl⟩
theorem turned_19 (w : World) (x : B32) : Calls Tryz.prog 52 #[.int .i64 (nw x), .int .i64 19] w fun e w' => e = .returned (.int .i64 (nw (rr x 19))) ∧ ∃ k, w' = w.drewN k := by
  have hx := nw_bound x
  have hr : nw x / 524288 + nw x % 524288 * 8192 = nw (rr x 19) := rr_int x 19 (by omega)
  go_enter Tryz.func52, Tryz.ntmps52
  go_wp2_with fail
  go_quiet (fail)
  go_wp2_with fail
  go_ret
  exact ⟨rfl, _, rfl⟩
theorem turned_6 (w : World) (x : B32) : Calls Tryz.prog 52 #[.int .i64 (nw x), .int .i64 6] w fun e w' => e = .returned (.int .i64 (nw (rr x 6))) ∧ ∃ k, w' = w.drewN k := by
  have hx := nw_bound x
  have hr : nw x / 64 + nw x % 64 * 67108864 = nw (rr x 6) := rr_int x 6 (by omega)
  go_enter Tryz.func52, Tryz.ntmps52
  go_wp2_with fail
  go_quiet (fail)
  go_wp2_with fail
  go_ret
  exact ⟨rfl, _, rfl⟩
theorem turned_11 (w : World) (x : B32) : Calls Tryz.prog 52 #[.int .i64 (nw x), .int .i64 11] w fun e w' => e = .returned (.int .i64 (nw (rr x 11))) ∧ ∃ k, w' = w.drewN k := by
  have hx := nw_bound x
  have hr : nw x / 2048 + nw x % 2048 * 2097152 = nw (rr x 11) := rr_int x 11 (by omega)
  go_enter Tryz.func52, Tryz.ntmps52
  go_wp2_with fail
  go_quiet (fail)
  go_wp2_with fail
  go_ret
  exact ⟨rfl, _, rfl⟩
theorem turned_25 (w : World) (x : B32) : Calls Tryz.prog 52 #[.int .i64 (nw x), .int .i64 25] w fun e w' => e = .returned (.int .i64 (nw (rr x 25))) ∧ ∃ k, w' = w.drewN k := by
  have hx := nw_bound x
  have hr : nw x / 33554432 + nw x % 33554432 * 128 = nw (rr x 25) := rr_int x 25 (by omega)
  go_enter Tryz.func52, Tryz.ntmps52
  go_wp2_with fail
  go_quiet (fail)
  go_wp2_with fail
  go_ret
  exact ⟨rfl, _, rfl⟩
theorem turned_2 (w : World) (x : B32) : Calls Tryz.prog 52 #[.int .i64 (nw x), .int .i64 2] w fun e w' => e = .returned (.int .i64 (nw (rr x 2))) ∧ ∃ k, w' = w.drewN k := by
  have hx := nw_bound x
  have hr : nw x / 4 + nw x % 4 * 1073741824 = nw (rr x 2) := rr_int x 2 (by omega)
  go_enter Tryz.func52, Tryz.ntmps52
  go_wp2_with fail
  go_quiet (fail)
  go_wp2_with fail
  go_ret
  exact ⟨rfl, _, rfl⟩
theorem turned_13 (w : World) (x : B32) : Calls Tryz.prog 52 #[.int .i64 (nw x), .int .i64 13] w fun e w' => e = .returned (.int .i64 (nw (rr x 13))) ∧ ∃ k, w' = w.drewN k := by
  have hx := nw_bound x
  have hr : nw x / 8192 + nw x % 8192 * 524288 = nw (rr x 13) := rr_int x 13 (by omega)
  go_enter Tryz.func52, Tryz.ntmps52
  go_wp2_with fail
  go_quiet (fail)
  go_wp2_with fail
  go_ret
  exact ⟨rfl, _, rfl⟩
theorem turned_22 (w : World) (x : B32) : Calls Tryz.prog 52 #[.int .i64 (nw x), .int .i64 22] w fun e w' => e = .returned (.int .i64 (nw (rr x 22))) ∧ ∃ k, w' = w.drewN k := by
  have hx := nw_bound x
  have hr : nw x / 4194304 + nw x % 4194304 * 1024 = nw (rr x 22) := rr_int x 22 (by omega)
  go_enter Tryz.func52, Tryz.ntmps52
  go_wp2_with fail
  go_quiet (fail)
  go_wp2_with fail
  go_ret
  exact ⟨rfl, _, rfl⟩

end Go.Proofs.YtlpljedacohngaaGreatDoor
end

/-
  The document's words, as the machine's numbers of 64 bits: plain definitions and theorems. No condition.
-/

section
set_option maxRecDepth 100000
set_option linter.unusedSimpArgs false
set_option linter.unusedVariables false
namespace Go.Proofs.YtlpljedacohngaaGreatDoor
open Go.RowKit

/-- Words as cells of 64 bits. -/
def Wi (xs : List B32) : List Value := xs.map fun x => .int .i64 (nw x)
theorem Wi_length (xs : List B32) : (Wi xs).length = xs.length := by simp [Wi]
theorem Wi_get (xs : List B32) (i : Nat) : (Wi xs)[i]? = xs[i]?.map fun x => .int .i64 (nw x) := by simp [Wi]
theorem Wi_append (xs ys : List B32) : Wi (xs ++ ys) = Wi xs ++ Wi ys := by simp [Wi]
theorem Wi_oneCell (xs : List B32) : ∀ u ∈ Wi xs, u.oneCell' = true := by
  intro u hu
  simp only [Wi, List.mem_map] at hu
  obtain ⟨x, _, rfl⟩ := hu
  rfl
theorem Wi_getD {xs : List B32} {i : Nat} (h : i < xs.length) : (Wi xs)[i]? = some (.int .i64 (nw (xs.getD i 0))) := by
  rw [Wi_get, List.getD_eq_getElem?_getD, List.getElem?_eq_getElem h]
  rfl
theorem Wi_set (xs : List B32) (i : Nat) (x : B32) : (Wi xs).set i (.int .i64 (nw x)) = Wi (xs.set i x) := by
  unfold Wi
  rw [List.map_set]

theorem wrap_i64 {n : Int} (h : 0 ≤ n) (h2 : n < 9223372036854775808) : IntKind.i64.wrap n = n := by
  simp [IntKind.wrap, IntKind.signed, IntKind.bits]
  omega
theorem ofInt64_nw (x : B32) : BitVec.ofInt 64 (nw x) = x.setWidth 64 := by
  apply BitVec.eq_of_toNat_eq
  have := x.isLt
  unfold nw
  simp
theorem wrap64_nw (x : B32) (y : BitVec 64) (h : y = x.setWidth 64) : IntKind.i64.wrap (y.toNat : Int) = nw x := by
  have e : (y.toNat : Int) = nw x := by
    have := x.isLt
    rw [h]
    unfold nw
    rw [BitVec.toNat_setWidth]
    omega
  rw [e]
  exact wrap_i64 (nw_bound x).1 (by have := (nw_bound x).2; omega)
theorem xor_i64 (x y : B32) : bits .xor .i64 (nw x) (nw y) = nw (x ^^^ y) := by
  unfold bits
  simp only [IntKind.bits, ofInt64_nw]
  exact wrap64_nw _ _ (by rw [BitVec.setWidth_xor]; rfl)
theorem and_i64 (x y : B32) : bits .and .i64 (nw x) (nw y) = nw (x &&& y) := by
  unfold bits
  simp only [IntKind.bits, ofInt64_nw]
  exact wrap64_nw _ _ (by rw [BitVec.setWidth_and]; rfl)
theorem or_i64 (x y : B32) : bits .or .i64 (nw x) (nw y) = nw (x ||| y) := by
  unfold bits
  simp only [IntKind.bits, ofInt64_nw]
  exact wrap64_nw _ _ (by rw [BitVec.setWidth_or]; rfl)
theorem not_i64 (x : B32) : 4294967295 - nw x = nw (~~~x) := by
  have := x.isLt
  unfold nw
  rw [BitVec.toNat_not]
  omega
theorem and_zero (x y z : B32) : (x &&& y) &&& (~~~x &&& z) = 0#32 := by
  ext i hi
  simp
  cases x[i] <;> simp
theorem pick_sum (x y z : B32) : nw (x &&& y) + nw (~~~x &&& z) = nw ((x &&& y) ^^^ (~~~x &&& z)) := by
  have h := and_zero x y z
  have e1 : (x &&& y) + (~~~x &&& z) = (x &&& y) ||| (~~~x &&& z) := BitVec.add_eq_or_of_and_eq_zero _ _ h
  have e2 : (x &&& y) ^^^ (~~~x &&& z) = (x &&& y) ||| (~~~x &&& z) := by
    ext i hi
    simp
    cases x[i] <;> simp
  have hn : (x &&& y).toNat + (~~~x &&& z).toNat < 4294967296 := by
    have hx : (x &&& y).toNat ≤ x.toNat := by rw [BitVec.toNat_and]; exact Nat.and_le_left
    have hz : (~~~x &&& z).toNat ≤ (~~~x).toNat := by rw [BitVec.toNat_and]; exact Nat.and_le_left
    rw [BitVec.toNat_not] at hz
    have := x.isLt
    omega
  rw [e2, ← e1]
  unfold nw
  rw [BitVec.toNat_add]
  omega
theorem most_or (x y z : B32) : (x &&& y) ||| (x &&& z) ||| (y &&& z) = (x &&& y) ^^^ (x &&& z) ^^^ (y &&& z) := by
  ext i hi
  simp
  cases x[i] <;> cases y[i] <;> cases z[i] <;> rfl
theorem mod_nw (n : Int) : n % 4294967296 = nw (BitVec.ofInt 32 n) := by
  rw [← wrap_u32]
  simp [IntKind.wrap, IntKind.signed, IntKind.bits]

/-- The words that lie there behind k steps of the first loop. -/
def schedN (bs : List B8) (k : Nat) : List B32 := if k < 16 then own16 bs k else more (own16 bs 16) (k - 16)
theorem schedN_length (bs : List B8) (k : Nat) : (schedN bs k).length = k := by
  unfold schedN
  split
  · exact own16_length bs k
  · rw [more_length, own16_length]; omega
theorem schedN_own (bs : List B8) {k : Nat} (hk : k < 16) : schedN bs (k + 1) = schedN bs k ++ [word4 bs k] := by
  unfold schedN
  rw [if_pos hk]
  split
  · rfl
  · obtain rfl : k = 15 := by omega
    rfl
theorem schedN_more (bs : List B8) {k : Nat} (hk : 16 ≤ k) : schedN bs (k + 1) = schedN bs k ++ [(schedN bs k).getD (k - 16) 0 + far ((schedN bs k).getD (k - 15) 0) + (schedN bs k).getD (k - 7) 0 + near ((schedN bs k).getD (k - 2) 0)] := by
  have hl := schedN_length bs k
  unfold schedN at hl ⊢
  rw [if_neg (by omega), if_neg (by omega)] at *
  have e : k + 1 - 16 = (k - 16) + 1 := by omega
  rw [e, more, nextW, hl]
theorem schedN_all (bs : List B8) : schedN bs 64 = sched bs := rfl
def parti (l : List B32) : List Value := Wi l ++ List.replicate (64 - l.length) (.int .i64 0)
theorem parti_length {l : List B32} (h : l.length ≤ 64) : (parti l).length = 64 := by simp [parti, Wi_length]; omega
theorem parti_set {l : List B32} (h : l.length < 64) (x : B32) : (parti l).set l.length (.int .i64 (nw x)) = parti (l ++ [x]) := by
  unfold parti
  rw [List.set_append_right _ _ (by rw [Wi_length]; omega), Wi_length, Nat.sub_self, Wi_append]
  obtain ⟨m, hm⟩ : ∃ m, 64 - l.length = m + 1 := ⟨64 - l.length - 1, by omega⟩
  rw [hm, List.replicate_succ, List.set_cons_zero, List.append_assoc]
  have : 64 - (l ++ [x]).length = m := by simp; omega
  rw [this]
  rfl
theorem parti_get {l : List B32} {i : Nat} (h : i < l.length) : (parti l)[i]? = some (.int .i64 (nw (l.getD i 0))) := by
  unfold parti
  rw [List.getElem?_append_left (by rw [Wi_length]; omega), Wi_getD h]
theorem parti_next {l : List B32} (h : l.length < 64) : (parti l)[l.length]? = some (.int .i64 0) := by
  unfold parti
  rw [List.getElem?_append_right (by rw [Wi_length]; omega), Wi_length, Nat.sub_self, List.getElem?_replicate]
  rw [if_pos (by omega)]
theorem parti_whole (l : List B32) (h : l.length = 64) : parti l = Wi l := by simp [parti, h]

theorem word_sum (b0 b1 b2 b3 : B8) : nb b0 * 16777216 + nb b1 * 65536 + nb b2 * 256 + nb b3 = nw (up b0 24 ||| up b1 16 ||| up b2 8 ||| b3.setWidth 32) := by
  have h0 := b0.isLt
  have h1 := b1.isLt
  have h2 := b2.isLt
  have h3 := b3.isLt
  have e : (up b0 24 ||| up b1 16 ||| up b2 8 ||| b3.setWidth 32).toNat = b0.toNat * 16777216 + b1.toNat * 65536 + b2.toNat * 256 + b3.toNat := by
    unfold up
    simp only [BitVec.toNat_or, BitVec.toNat_shiftLeft, BitVec.toNat_setWidth, Nat.shiftLeft_eq]
    rw [Nat.mod_eq_of_lt (a := b0.toNat) (by omega), Nat.mod_eq_of_lt (a := b1.toNat) (by omega), Nat.mod_eq_of_lt (a := b2.toNat) (by omega), Nat.mod_eq_of_lt (a := b3.toNat) (by omega)]
    rw [Nat.mod_eq_of_lt (a := b0.toNat * 2 ^ 24) (by omega), Nat.mod_eq_of_lt (a := b1.toNat * 2 ^ 16) (by omega), Nat.mod_eq_of_lt (a := b2.toNat * 2 ^ 8) (by omega)]
    rw [Nat.mul_comm b0.toNat, ← Nat.two_pow_add_eq_or_of_lt (i := 24) (b := b1.toNat * 2 ^ 16) (by omega)]
    have f1 : 2 ^ 24 * b0.toNat + b1.toNat * 2 ^ 16 = 2 ^ 16 * (256 * b0.toNat + b1.toNat) := by omega
    rw [f1, ← Nat.two_pow_add_eq_or_of_lt (i := 16) (b := b2.toNat * 2 ^ 8) (by omega)]
    have f2 : 2 ^ 16 * (256 * b0.toNat + b1.toNat) + b2.toNat * 2 ^ 8 = 2 ^ 8 * (256 * (256 * b0.toNat + b1.toNat) + b2.toNat) := by omega
    rw [f2, ← Nat.two_pow_add_eq_or_of_lt (i := 8) (b := b3.toNat) (by omega)]
    first | done | omega
  unfold nw nb
  rw [e]
  omega

end Go.Proofs.YtlpljedacohngaaGreatDoor
end

/-
  A region that makes four variables of two numbers and fills them, in whatever order: by an invariant over what has come up. Conditions: those in the theorem.
-/

section
set_option maxRecDepth 100000
set_option linter.unusedSimpArgs false
set_option linter.unusedVariables false
namespace Go.Proofs.YtlpljedacohngaaGreatDoor
open Go.RowKit

def zero2 : List Value := [.int .i64 0, .int .i64 0]
/-- Of 28 operations 20 have come up; of the last eight those that b and s say. -/
def L28 (b s : Nat → Bool) : Array Bool := #[true, true, true, true, true, true, true, true, true, true, true, true, true, true, true, true, true, true, true, true, b 0, b 1, b 2, b 3, s 0, s 1, s 2, s 3]
def upd1 (b : Nat → Bool) (j : Nat) : Nat → Bool := fun k => if k = j then true else b k
def updN (p : Nat → Nat) (j q : Nat) : Nat → Nat := fun k => if k = j then q else p k
theorem L28_b (b s : Nat → Bool) : ∀ j, j < 4 → (L28 b s).setIfInBounds (20 + j) true = L28 (upd1 b j) s
  | 0, _ | 1, _ | 2, _ | 3, _ => rfl
theorem L28_s (b s : Nat → Bool) : ∀ j, j < 4 → (L28 b s).setIfInBounds (24 + j) true = L28 b (upd1 s j)
  | 0, _ | 1, _ | 2, _ | 3, _ => rfl
def one1 (b : Bool) : Nat := if b then 0 else 1
def cnt8 (b s : Nat → Bool) : Nat := one1 (b 0) + one1 (b 1) + one1 (b 2) + one1 (b 3) + one1 (s 0) + one1 (s 1) + one1 (s 2) + one1 (s 3)
theorem cnt8_b (b s : Nat → Bool) : ∀ j, j < 4 → b j = false → cnt8 (upd1 b j) s + 1 = cnt8 b s
  | 0, _, h => by simp [cnt8, upd1, one1, h]; omega
  | 1, _, h => by simp [cnt8, upd1, one1, h]; omega
  | 2, _, h => by simp [cnt8, upd1, one1, h]; omega
  | 3, _, h => by simp [cnt8, upd1, one1, h]; omega
theorem cnt8_s (b s : Nat → Bool) : ∀ j, j < 4 → s j = false → cnt8 b (upd1 s j) + 1 = cnt8 b s
  | 0, _, h => by simp [cnt8, upd1, one1, h]; omega
  | 1, _, h => by simp [cnt8, upd1, one1, h]; omega
  | 2, _, h => by simp [cnt8, upd1, one1, h]; omega
  | 3, _, h => by simp [cnt8, upd1, one1, h]
theorem cnt8_zero {b s : Nat → Bool} (h : cnt8 b s = 0) : ∀ j, j < 4 → b j = true ∧ s j = true := by
  have e : ∀ x, one1 x = 0 → x = true := by intro x; cases x <;> simp [one1]
  unfold cnt8 at h
  intro j hj
  match j, hj with
  | 0, _ => exact ⟨e _ (by omega), e _ (by omega)⟩
  | 1, _ => exact ⟨e _ (by omega), e _ (by omega)⟩
  | 2, _ => exact ⟨e _ (by omega), e _ (by omega)⟩
  | 3, _ => exact ⟨e _ (by omega), e _ (by omega)⟩

/-- The frames are alike but for slots 11 to 14. -/
structure Same4 (a0 a : Act) : Prop where
  size : a.tmps.size = a0.tmps.size
  defers : a.defers = a0.defers
  eval : ∀ t, t < 11 ∨ 14 < t → a.tmps.getD t undef = a0.tmps.getD t undef
theorem Same4.put {a0 a : Act} (h : Same4 a0 a) (j : Nat) (hj : j < 4) (v : Value) : Same4 a0 (a.put (some (11 + j)) v) := by
  refine ⟨by simpa [Act.put] using h.size, h.defers, fun t ht => ?_⟩
  rw [← h.eval t ht]
  have hne : 11 + j ≠ t := by omega
  simp [Act.put, Array.getElem?_setIfInBounds_ne hne]
theorem put_same {a : Act} {t : Nat} (ht : t < a.tmps.size) (v : Value) : (a.put (some t) v).tmps.getD t undef = v := by
  simp [Act.put, ht]
theorem put_other {a : Act} {t u : Nat} (h : u ≠ t) (v : Value) : (a.put (some u) v).tmps.getD t undef = a.tmps.getD t undef := by
  simp [Act.put, Array.getElem?_setIfInBounds_ne h]
theorem act_ext {a c : Act} (hs : a.tmps.size = c.tmps.size) (hd : a.defers = c.defers) (h : ∀ t, a.tmps.getD t undef = c.tmps.getD t undef) : a = c := by
  obtain ⟨x, y⟩ := a
  obtain ⟨x', y'⟩ := c
  simp only at hs hd h
  subst hd
  have : x = x' := by
    apply Array.ext hs
    intro t h1 h2
    have := h t
    simpa [h1, h2] using this
  rw [this]
theorem Same4.whole {a0 a : Act} (h : Same4 a0 a) (hsz : 14 < a0.tmps.size) (v : Nat → Value) (hv : ∀ j, j < 4 → a.tmps.getD (11 + j) undef = v j) :
    a = (((a0.put (some 11) (v 0)).put (some 12) (v 1)).put (some 13) (v 2)).put (some 14) (v 3) := by
  refine act_ext (by rw [h.size]; simp [Act.put]) (by rw [h.defers]; rfl) fun t => ?_
  by_cases h14 : t = 14
  · subst h14
    rw [put_same (by simpa [Act.put] using hsz), ← hv 3 (by omega)]
  · rw [put_other (by omega)]
    by_cases h13 : t = 13
    · subst h13
      rw [put_same (by simp [Act.put]; omega), ← hv 2 (by omega)]
    · rw [put_other (by omega)]
      by_cases h12 : t = 12
      · subst h12
        rw [put_same (by simp [Act.put]; omega), ← hv 1 (by omega)]
      · rw [put_other (by omega)]
        by_cases h11 : t = 11
        · subst h11
          rw [put_same (by omega), ← hv 0 (by omega)]
        · rw [put_other (by omega)]
          exact h.eval t (by omega)

theorem wpOp_alloc2 {ops : Array Oper} {Q : Exit → Act → World → Prop} {i : Nat} {K : Act → World → Prop} {a : Act} {w : World} {o : Oper} (ho : ops[i]? = some o) (hop : o.op = .alloc 105) (hg : o.guard = none)
    (h : K (a.put o.dst (.pointer (some ⟨w.heap.size, 0, none⟩))) (w.alloc (.cells zero2.toArray 105))) : wpOp Tryz.prog ops Q i K a w := by
  have hr : (execOp a.eval o).run Tryz.prog w = .ok (.value (.pointer (some ⟨w.heap.size, 0, none⟩))) (w.alloc (.cells zero2.toArray 105)) := by
    unfold execOp
    rw [hop]
    kernel_rfl
  unfold wpOp
  rw [ho]
  simp only [Region.wanted, hg]
  rw [if_pos (by first | trivial | rfl)]
  refine Or.inl ?_
  unfold Oper.wp
  rw [hr, Oper.upon_value]
  exact h
theorem wpOp_store2 {ops : Array Oper} {Q : Exit → Act → World → Prop} {i : Nat} {K : Act → World → Prop} {a : Act} {w : World} {o : Oper} (ho : ops[i]? = some o) {x y : Operand} (hop : o.op = .store 105 x y) (hg : o.guard = none) (hd : o.dst = none)
    {p : Nat} {cs vs : List Value} (hx : a.eval x = .pointer (some ⟨p, 0, none⟩)) (hy : a.eval y = .agg vs.toArray) (hb : Blk w p 105 cs) (hc : cs.length = 2) (hv : vs.length = 2) (h1 : ∀ u ∈ vs, u.oneCell' = true)
    (h : ∀ w', Blk w' p 105 vs → Only [p] w w' → K a w') : wpOp Tryz.prog ops Q i K a w := by
  unfold wpOp
  rw [ho]
  simp only [Region.wanted, hg]
  rw [if_pos (by first | trivial | rfl)]
  refine Or.inl ?_
  have i72 : (Tryz.prog.info? 105).map (·.size) = some 2 := by kernel_rfl
  refine wp_store_mid _ x y hop p 0 vs.toArray hx hy (hb.there (by simp [hc, hv])) (by simpa [hv] using i72) (all_oneCell_toArray h1) ?_
  have hB := hb.setCells vs 0 (by simp [hc, hv])
  rw [over_whole (by rw [hc, hv])] at hB
  rw [hd]
  exact h _ hB (Only.setCells vs p 0 (Only.refl _ _) (.inl (by simp)))

theorem four_boxes {ops : Array Oper} {Q : Exit → Act → World → Prop} {S R : World → Prop} {B : Nat} {x : Nat → List Value} {y : Nat → Nat} (a0 : Act) (hsz : 14 < a0.tmps.size)
    (hS : ∀ w, R w → S w) (hRB : ∀ w, R w → B ≤ w.heap.size) (hRa : ∀ w, R w → R (w.alloc (.cells zero2.toArray 105))) (hRs : ∀ w w' p, R w → B ≤ p → Only [p] w w' → R w')
    (hoa : ∀ j, j < 4 → ∃ o, ops[20 + j]? = some o ∧ o.op = .alloc 105 ∧ o.guard = none ∧ o.dst = some (11 + j))
    (hos : ∀ j, j < 4 → ∃ o, ops[24 + j]? = some o ∧ o.op = .store 105 (.tmp (11 + j)) (.tmp (y j)) ∧ o.guard = none ∧ o.dst = none)
    (hy : ∀ j, j < 4 → 14 < y j ∧ a0.tmps.getD (y j) undef = .agg (x j).toArray ∧ (x j).length = 2 ∧ ∀ u ∈ x j, u.oneCell' = true)
    (f1 : ∀ b s, Region.ready .any ops (L28 b s) = [] → cnt8 b s = 0)
    (f2 : ∀ b s i, i ∈ Region.ready .any ops (L28 b s) → ∃ j, j < 4 ∧ ((i = 20 + j ∧ b j = false) ∨ (i = 24 + j ∧ s j = false ∧ b j = true)))
    (f3 : ∀ b s, cnt8 b s = 0 → Region.ready .any ops (L28 b s) = [])
    (hQ : ∀ (w : World) (p : Nat → Nat), R w → (∀ j, j < 4 → B ≤ p j ∧ Blk w (p j) 105 (x j)) → (∀ j k, j < 4 → k < 4 → j ≠ k → p j ≠ p k) →
      Q .normal ((((a0.put (some 11) (.pointer (some ⟨p 0, 0, none⟩))).put (some 12) (.pointer (some ⟨p 1, 0, none⟩))).put (some 13) (.pointer (some ⟨p 2, 0, none⟩))).put (some 14) (.pointer (some ⟨p 3, 0, none⟩))) w) :
    ∀ (fuel : Nat) (b s : Nat → Bool) (p : Nat → Nat) (a : Act) (w : World), cnt8 b s ≤ fuel → R w → Same4 a0 a →
      (∀ j, j < 4 → s j = true → b j = true) →
      (∀ j, j < 4 → b j = true → a.tmps.getD (11 + j) undef = .pointer (some ⟨p j, 0, none⟩) ∧ B ≤ p j ∧ Blk w (p j) 105 (if s j = true then x j else zero2)) →
      (∀ j k, j < 4 → k < 4 → j ≠ k → b j = true → b k = true → p j ≠ p k) → wpAnyH Tryz.prog .any ops Q S fuel (L28 b s) a w := by
  have done : ∀ (b s : Nat → Bool) (p : Nat → Nat) (a : Act) (w : World), cnt8 b s = 0 → R w → Same4 a0 a →
      (∀ j, j < 4 → b j = true → a.tmps.getD (11 + j) undef = .pointer (some ⟨p j, 0, none⟩) ∧ B ≤ p j ∧ Blk w (p j) 105 (if s j = true then x j else zero2)) →
      (∀ j k, j < 4 → k < 4 → j ≠ k → b j = true → b k = true → p j ≠ p k) → Q .normal a w := by
    intro b s p a w h0 hR hA hB hD
    have hz := cnt8_zero h0
    rw [hA.whole hsz (fun j => .pointer (some ⟨p j, 0, none⟩)) (fun j hj => (hB j hj (hz j hj).1).1)]
    refine hQ w p hR (fun j hj => ?_) (fun j k hj hk hjk => hD j k hj hk hjk (hz j hj).1 (hz k hk).1)
    obtain ⟨-, h1, h2⟩ := hB j hj (hz j hj).1
    rw [if_pos (hz j hj).2] at h2
    exact ⟨h1, h2⟩
  intro fuel
  induction fuel with
  | zero =>
    intro b s p a w hc hR hA _ hB hD
    exact ⟨f3 b s (by omega), done b s p a w (by omega) hR hA hB hD⟩
  | succ fuel ih =>
    intro b s p a w hc hR hA hsb hB hD
    refine ⟨fun h0 => done b s p a w (f1 b s h0) hR hA hB hD, fun i hi => ?_⟩
    obtain ⟨j, hj, ⟨rfl, hbj⟩ | ⟨rfl, hsj, hbj⟩⟩ := f2 b s i hi
    · obtain ⟨o, ho, hop, hg, hd⟩ := hoa j hj
      refine wpOp_alloc2 ho hop hg ?_
      rw [hd, L28_b b s j hj]
      have hRw := hRa w hR
      have hBs := hRB w hR
      have hslt : 11 + j < a.tmps.size := by rw [hA.size]; omega
      refine ⟨hS _ hRw, ih _ _ (updN p j w.heap.size) _ _ (by have := cnt8_b b s j hj hbj; omega) hRw (hA.put j hj _) (fun k hk hsk => ?_) (fun k hk hbk => ?_) (fun k l hk hl hkl hbk hbl => ?_)⟩
      · have := hsb k hk hsk
        unfold upd1
        split
        · rfl
        · exact this
      · by_cases hkj : k = j
        · subst hkj
          have hsk : ¬ s k = true := fun h => by have := hsb k hk h; rw [hbj] at this; cases this
          rw [if_neg hsk]
          unfold updN
          rw [if_pos rfl]
          exact ⟨put_same hslt _, hBs, Blk.new w 105 zero2⟩
        · have hbk' : b k = true := by unfold upd1 at hbk; rwa [if_neg hkj] at hbk
          obtain ⟨h1, h2, h3⟩ := hB k hk hbk'
          unfold updN
          rw [if_neg hkj]
          exact ⟨(put_other (by omega) _).trans h1, h2, h3.alloc _⟩
      · have old : ∀ m, m < 4 → m ≠ j → upd1 b j m = true → b m = true := fun m _ hmj h => by unfold upd1 at h; rwa [if_neg hmj] at h
        unfold updN
        by_cases hkj : k = j
        · rw [if_pos hkj, if_neg (by omega)]
          have := (hB l hl (old l hl (by omega) hbl)).2.2.lt
          omega
        · rw [if_neg hkj]
          by_cases hlj : l = j
          · rw [if_pos hlj]
            have := (hB k hk (old k hk hkj hbk)).2.2.lt
            omega
          · rw [if_neg hlj]
            exact hD k l hk hl hkl (old k hk hkj hbk) (old l hl hlj hbl)
    · obtain ⟨o, ho, hop, hg, hd⟩ := hos j hj
      obtain ⟨h1, h2, h3⟩ := hB j hj hbj
      rw [hsj, if_neg (by simp)] at h3
      obtain ⟨hy1, hy2, hy3, hy4⟩ := hy j hj
      refine wpOp_store2 ho hop hg hd (vs := x j) h1 ((hA.eval _ (.inr hy1)).trans hy2) h3 rfl hy3 hy4 fun w' hb' hO => ?_
      rw [L28_s b s j hj]
      have hRw := hRs w w' _ hR h2 hO
      refine ⟨hS _ hRw, ih _ _ p _ _ (by have := cnt8_s b s j hj hsj; omega) hRw hA (fun k hk hsk => ?_) (fun k hk hbk => ?_) hD⟩
      · by_cases hkj : k = j
        · subst hkj; exact hbj
        · unfold upd1 at hsk
          rw [if_neg hkj] at hsk
          exact hsb k hk hsk
      · by_cases hkj : k = j
        · subst hkj
          unfold upd1
          rw [if_pos rfl, if_pos rfl]
          exact ⟨h1, h2, hb'⟩
        · obtain ⟨g1, g2, g3⟩ := hB k hk hbk
          unfold upd1
          rw [if_neg hkj]
          exact ⟨g1, g2, g3.only hO (by simp; exact hD k j hk hj hkj hbk hbj)⟩

/-- What may come up next is as 'f1' to 'f3' ask. -/
def ok8 (ops : Array Oper) (b0 b1 b2 b3 s0 s1 s2 s3 : Bool) : Bool :=
  let r := Region.ready .any ops #[true, true, true, true, true, true, true, true, true, true, true, true, true, true, true, true, true, true, true, true, b0, b1, b2, b3, s0, s1, s2, s3]
  (r.isEmpty == (b0 && b1 && b2 && b3 && s0 && s1 && s2 && s3)) &&
  r.all fun i => (i == 20 && !b0) || (i == 21 && !b1) || (i == 22 && !b2) || (i == 23 && !b3) || (i == 24 && (!s0 && b0)) || (i == 25 && (!s1 && b1)) || (i == 26 && (!s2 && b2)) || (i == 27 && (!s3 && b3))
theorem four_boxes_start {ops : Array Oper} {Q : Exit → Act → World → Prop} {S : World → Prop} {listed : Array Bool} (a0 : Act) (w : World) (R : World → Prop) (B : Nat) (x : Nat → List Value) (y : Nat → Nat) (hl : listed = L28 (fun _ => false) (fun _ => false)) (hsz : 14 < a0.tmps.size) (hR : R w)
    (hS : ∀ w, R w → S w) (hRB : ∀ w, R w → B ≤ w.heap.size) (hRa : ∀ w, R w → R (w.alloc (.cells zero2.toArray 105))) (hRs : ∀ w w' p, R w → B ≤ p → Only [p] w w' → R w')
    (hoa : ∀ j, j < 4 → ∃ o, ops[20 + j]? = some o ∧ o.op = .alloc 105 ∧ o.guard = none ∧ o.dst = some (11 + j))
    (hos : ∀ j, j < 4 → ∃ o, ops[24 + j]? = some o ∧ o.op = .store 105 (.tmp (11 + j)) (.tmp (y j)) ∧ o.guard = none ∧ o.dst = none)
    (hy : ∀ j, j < 4 → 14 < y j ∧ a0.tmps.getD (y j) undef = .agg (x j).toArray ∧ (x j).length = 2 ∧ ∀ u ∈ x j, u.oneCell' = true)
    (hf : ∀ b0 b1 b2 b3 s0 s1 s2 s3, ok8 ops b0 b1 b2 b3 s0 s1 s2 s3 = true)
    (hQ : ∀ (w : World) (p : Nat → Nat), R w → (∀ j, j < 4 → B ≤ p j ∧ Blk w (p j) 105 (x j)) → (∀ j k, j < 4 → k < 4 → j ≠ k → p j ≠ p k) →
      Q .normal ((((a0.put (some 11) (.pointer (some ⟨p 0, 0, none⟩))).put (some 12) (.pointer (some ⟨p 1, 0, none⟩))).put (some 13) (.pointer (some ⟨p 2, 0, none⟩))).put (some 14) (.pointer (some ⟨p 3, 0, none⟩))) w) :
    wpAnyH Tryz.prog .any ops Q S 8 listed a0 w := by
  subst hl
  have g : ∀ b s : Nat → Bool, ((Region.ready .any ops (L28 b s)).isEmpty = (b 0 && b 1 && b 2 && b 3 && s 0 && s 1 && s 2 && s 3)) ∧ (Region.ready .any ops (L28 b s)).all (fun i => (i == 20 && !b 0) || (i == 21 && !b 1) || (i == 22 && !b 2) || (i == 23 && !b 3) || (i == 24 && (!s 0 && b 0)) || (i == 25 && (!s 1 && b 1)) || (i == 26 && (!s 2 && b 2)) || (i == 27 && (!s 3 && b 3))) = true := by
    intro b s
    have h := hf (b 0) (b 1) (b 2) (b 3) (s 0) (s 1) (s 2) (s 3)
    unfold ok8 at h
    simp only [Bool.and_eq_true, beq_iff_eq] at h
    exact h
  refine four_boxes a0 hsz hS hRB hRa hRs hoa hos hy (fun b s h => ?_) (fun b s i hi => ?_) (fun b s h => ?_) hQ 8 _ _ (fun _ => 0) _ _ (by decide) hR ⟨rfl, rfl, fun _ _ => rfl⟩ (fun j _ h => by cases h) (fun j _ h => by cases h) (fun j k _ _ _ h => by cases h)
  · have := (g b s).1
    rw [h] at this
    simp only [List.isEmpty_nil, Bool.true_eq, Bool.and_eq_true] at this
    obtain ⟨⟨⟨⟨⟨⟨⟨h0, h1⟩, h2⟩, h3⟩, h4⟩, h5⟩, h6⟩, h7⟩ := this
    simp [cnt8, one1, h0, h1, h2, h3, h4, h5, h6, h7]
  · have := List.all_eq_true.1 (g b s).2 i hi
    simp only [Bool.or_eq_true, Bool.and_eq_true, beq_iff_eq, Bool.not_eq_true'] at this
    rcases this with ((((((h | h) | h) | h) | h) | h) | h) | h
    · exact ⟨0, by omega, .inl h⟩
    · exact ⟨1, by omega, .inl h⟩
    · exact ⟨2, by omega, .inl h⟩
    · exact ⟨3, by omega, .inl h⟩
    · exact ⟨0, by omega, .inr h⟩
    · exact ⟨1, by omega, .inr h⟩
    · exact ⟨2, by omega, .inr h⟩
    · exact ⟨3, by omega, .inr h⟩
  · have hz := cnt8_zero h
    have := (g b s).1
    rw [(hz 0 (by omega)).1, (hz 1 (by omega)).1, (hz 2 (by omega)).1, (hz 3 (by omega)).1, (hz 0 (by omega)).2, (hz 1 (by omega)).2, (hz 2 (by omega)).2, (hz 3 (by omega)).2] at this
    exact List.isEmpty_iff.1 this

end Go.Proofs.YtlpljedacohngaaGreatDoor
end
