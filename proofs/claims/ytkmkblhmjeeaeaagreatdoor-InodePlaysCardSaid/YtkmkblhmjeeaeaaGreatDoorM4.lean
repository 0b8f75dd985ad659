/-
  Of and Hex. Conditions: the texts are known; the constants lie in their variable; at most 2^49 bytes in all.
-/
import Derived.Test.YtkmkblhmjeeaeaaGreatDoorM2
import Derived.Laws.IdiomStrings
import Derived.Lib.SlBytesConst
import Derived.Stop.BytesEq
import Derived.Laws.AppendOwnNone
import Derived.OwnWalk
import Derived.Deep.RegionHeld3
import Derived.Test.YtkmkblhmjeeaeaaGreatDoorM3
import Derived.IntWalk
section
set_option maxRecDepth 100000
set_option linter.unusedSimpArgs false
set_option linter.unusedVariables false
namespace Go.Proofs.YtkmkblhmjeeaeaaGreatDoor
open Go.RowKit

theorem Txt.at {w : World} {p q : Nat} {A : Option Addr} {n c : Nat} {bs : List B8} (h : Txt w p A n c bs) (hq : w.heap.size ≤ q) : Txt w q A n c bs := by
  refine ⟨h.len, h.cap, h.capm, fun hn => ?_⟩
  obtain ⟨g, o, hA, hg, hc⟩ := h.cells hn
  have : g < w.heap.size := World.block_lt_of_cell? w _ (hc 0 hn)
  exact ⟨g, o, hA, by omega, hc⟩
theorem Txts.at {w : World} {p q : Nat} {L : Option Addr} {n : Nat} {xs : List (List B8)} (h : Txts w p L n xs) (hq : w.heap.size ≤ q) : Txts w q L n xs := by
  refine ⟨h.len, fun hn => ?_⟩
  obtain ⟨g, o, hL, hg, hc⟩ := h.cells hn
  obtain ⟨A, k, c, h0, ht⟩ := hc 0 (xs[0]'(by have := h.len; omega)) (List.getElem?_eq_getElem _)
  have : g < w.heap.size := World.block_lt_of_cell? w _ h0
  exact ⟨g, o, hL, by omega, fun i x hx => by
    obtain ⟨A, k, c, h0, ht⟩ := hc i x hx
    exact ⟨A, k, c, h0, ht.at hq⟩⟩

/-- Bytes as a string. -/
def strOf (l : List B8) : Value := .string ⟨(l.map UInt8.ofBitVec).toArray⟩

theorem agg_index (d : List B8) (hd : d.length = 32) (k : Nat) (hk : k < 32) (W : World) : (Instr.index 168 (.agg (Vb d).toArray) (.int .i64 k)).run Tryz.prog W = .ok (.int .u8 (nb (d.getD k 0))) W := by
  have hs : (sizeOf 5).run Tryz.prog W = .ok 1 W := by kernel_rfl
  obtain ⟨x, hx⟩ : ∃ x, d[k]? = some x := ⟨_, List.getElem?_eq_getElem (by omega)⟩
  have hv : (Vb d)[k]? = some (.int .u8 (nb x)) := by rw [Vb_get, hx]; rfl
  rw [List.getD_eq_getElem?_getD, hx]
  simp [Instr.index, asIntOf, run_underlying Tryz.underlying168, Go.part, hs, hv, hk]

theorem sign_index (i : Nat) (hi : i < 16) (W : World) : (Instr.index 9 (.string ⟨#[48, 49, 50, 51, 52, 53, 54, 55, 56, 57, 97, 98, 99, 100, 101, 102]⟩) (.int .u8 i)).run Tryz.prog W = .ok (.int .u8 (nb (sign i))) W := by
  match i, hi with
  | 0, _ =>
    have h : (Instr.index 9 (.string ⟨#[48, 49, 50, 51, 52, 53, 54, 55, 56, 57, 97, 98, 99, 100, 101, 102]⟩) (.int .u8 ((0 : Nat) : Int))).run Tryz.prog W = .ok (.int .u8 (nb (sign 0))) W := by kernel_rfl
    exact h
  | 1, _ =>
    have h : (Instr.index 9 (.string ⟨#[48, 49, 50, 51, 52, 53, 54, 55, 56, 57, 97, 98, 99, 100, 101, 102]⟩) (.int .u8 ((1 : Nat) : Int))).run Tryz.prog W = .ok (.int .u8 (nb (sign 1))) W := by kernel_rfl
    exact h
  | 2, _ =>
    have h : (Instr.index 9 (.string ⟨#[48, 49, 50, 51, 52, 53, 54, 55, 56, 57, 97, 98, 99, 100, 101, 102]⟩) (.int .u8 ((2 : Nat) : Int))).run Tryz.prog W = .ok (.int .u8 (nb (sign 2))) W := by kernel_rfl
    exact h
  | 3, _ =>
    have h : (Instr.index 9 (.string ⟨#[48, 49, 50, 51, 52, 53, 54, 55, 56, 57, 97, 98, 99, 100, 101, 102]⟩) (.int .u8 ((3 : Nat) : Int))).run Tryz.prog W = .ok (.int .u8 (nb (sign 3))) W := by kernel_rfl
    exact h
  | 4, _ =>
    have h : (Instr.index 9 (.string ⟨#[48, 49, 50, 51, 52, 53, 54, 55, 56, 57, 97, 98, 99, 100, 101, 102]⟩) (.int .u8 ((4 : Nat) : Int))).run Tryz.prog W = .ok (.int .u8 (nb (sign 4))) W := by kernel_rfl
    exact h
  | 5, _ =>
    have h : (Instr.index 9 (.string ⟨#[48, 49, 50, 51, 52, 53, 54, 55, 56, 57, 97, 98, 99, 100, 101, 102]⟩) (.int .u8 ((5 : Nat) : Int))).run Tryz.prog W = .ok (.int .u8 (nb (sign 5))) W := by kernel_rfl
    exact h
  | 6, _ =>
    have h : (Instr.index 9 (.string ⟨#[48, 49, 50, 51, 52, 53, 54, 55, 56, 57, 97, 98, 99, 100, 101, 102]⟩) (.int .u8 ((6 : Nat) : Int))).run Tryz.prog W = .ok (.int .u8 (nb (sign 6))) W := by kernel_rfl
    exact h
  | 7, _ =>
    have h : (Instr.index 9 (.string ⟨#[48, 49, 50, 51, 52, 53, 54, 55, 56, 57, 97, 98, 99, 100, 101, 102]⟩) (.int .u8 ((7 : Nat) : Int))).run Tryz.prog W = .ok (.int .u8 (nb (sign 7))) W := by kernel_rfl
    exact h
  | 8, _ =>
    have h : (Instr.index 9 (.string ⟨#[48, 49, 50, 51, 52, 53, 54, 55, 56, 57, 97, 98, 99, 100, 101, 102]⟩) (.int .u8 ((8 : Nat) : Int))).run Tryz.prog W = .ok (.int .u8 (nb (sign 8))) W := by kernel_rfl
    exact h
  | 9, _ =>
    have h : (Instr.index 9 (.string ⟨#[48, 49, 50, 51, 52, 53, 54, 55, 56, 57, 97, 98, 99, 100, 101, 102]⟩) (.int .u8 ((9 : Nat) : Int))).run Tryz.prog W = .ok (.int .u8 (nb (sign 9))) W := by kernel_rfl
    exact h
  | 10, _ =>
    have h : (Instr.index 9 (.string ⟨#[48, 49, 50, 51, 52, 53, 54, 55, 56, 57, 97, 98, 99, 100, 101, 102]⟩) (.int .u8 ((10 : Nat) : Int))).run Tryz.prog W = .ok (.int .u8 (nb (sign 10))) W := by kernel_rfl
    exact h
  | 11, _ =>
    have h : (Instr.index 9 (.string ⟨#[48, 49, 50, 51, 52, 53, 54, 55, 56, 57, 97, 98, 99, 100, 101, 102]⟩) (.int .u8 ((11 : Nat) : Int))).run Tryz.prog W = .ok (.int .u8 (nb (sign 11))) W := by kernel_rfl
    exact h
  | 12, _ =>
    have h : (Instr.index 9 (.string ⟨#[48, 49, 50, 51, 52, 53, 54, 55, 56, 57, 97, 98, 99, 100, 101, 102]⟩) (.int .u8 ((12 : Nat) : Int))).run Tryz.prog W = .ok (.int .u8 (nb (sign 12))) W := by kernel_rfl
    exact h
  | 13, _ =>
    have h : (Instr.index 9 (.string ⟨#[48, 49, 50, 51, 52, 53, 54, 55, 56, 57, 97, 98, 99, 100, 101, 102]⟩) (.int .u8 ((13 : Nat) : Int))).run Tryz.prog W = .ok (.int .u8 (nb (sign 13))) W := by kernel_rfl
    exact h
  | 14, _ =>
    have h : (Instr.index 9 (.string ⟨#[48, 49, 50, 51, 52, 53, 54, 55, 56, 57, 97, 98, 99, 100, 101, 102]⟩) (.int .u8 ((14 : Nat) : Int))).run Tryz.prog W = .ok (.int .u8 (nb (sign 14))) W := by kernel_rfl
    exact h
  | 15, _ =>
    have h : (Instr.index 9 (.string ⟨#[48, 49, 50, 51, 52, 53, 54, 55, 56, 57, 97, 98, 99, 100, 101, 102]⟩) (.int .u8 ((15 : Nat) : Int))).run Tryz.prog W = .ok (.int .u8 (nb (sign 15))) W := by kernel_rfl
    exact h
  | k + 16, h => exact absurd h (by omega)

theorem and15 (x : B8) : bits .and .u8 (nb x) 15 = ((x.toNat % 16 : Nat) : Int) := by
  have h : ∀ y : B8, bits .and .u8 (nb y) 15 = ((y.toNat % 16 : Nat) : Int) := by decide +kernel
  exact h x
theorem div16 (x : B8) : nb x / 16 = ((x.toNat / 16 : Nat) : Int) := by
  unfold nb
  omega

theorem sign_nat (i : Nat) (hi : i < 16) (h : i < (⟨#[48, 49, 50, 51, 52, 53, 54, 55, 56, 57, 97, 98, 99, 100, 101, 102]⟩ : ByteArray).size) : (((⟨#[48, 49, 50, 51, 52, 53, 54, 55, 56, 57, 97, 98, 99, 100, 101, 102]⟩ : ByteArray)[i]'h).toNat : Int) = nb (sign i) := by
  match i, hi, h with
  | 0, _, h =>
    have e : (((⟨#[48, 49, 50, 51, 52, 53, 54, 55, 56, 57, 97, 98, 99, 100, 101, 102]⟩ : ByteArray)[0]'h).toNat : Int) = nb (sign 0) := by kernel_rfl
    exact e
  | 1, _, h =>
    have e : (((⟨#[48, 49, 50, 51, 52, 53, 54, 55, 56, 57, 97, 98, 99, 100, 101, 102]⟩ : ByteArray)[1]'h).toNat : Int) = nb (sign 1) := by kernel_rfl
    exact e
  | 2, _, h =>
    have e : (((⟨#[48, 49, 50, 51, 52, 53, 54, 55, 56, 57, 97, 98, 99, 100, 101, 102]⟩ : ByteArray)[2]'h).toNat : Int) = nb (sign 2) := by kernel_rfl
    exact e
  | 3, _, h =>
    have e : (((⟨#[48, 49, 50, 51, 52, 53, 54, 55, 56, 57, 97, 98, 99, 100, 101, 102]⟩ : ByteArray)[3]'h).toNat : Int) = nb (sign 3) := by kernel_rfl
    exact e
  | 4, _, h =>
    have e : (((⟨#[48, 49, 50, 51, 52, 53, 54, 55, 56, 57, 97, 98, 99, 100, 101, 102]⟩ : ByteArray)[4]'h).toNat : Int) = nb (sign 4) := by kernel_rfl
    exact e
  | 5, _, h =>
    have e : (((⟨#[48, 49, 50, 51, 52, 53, 54, 55, 56, 57, 97, 98, 99, 100, 101, 102]⟩ : ByteArray)[5]'h).toNat : Int) = nb (sign 5) := by kernel_rfl
    exact e
  | 6, _, h =>
    have e : (((⟨#[48, 49, 50, 51, 52, 53, 54, 55, 56, 57, 97, 98, 99, 100, 101, 102]⟩ : ByteArray)[6]'h).toNat : Int) = nb (sign 6) := by kernel_rfl
    exact e
  | 7, _, h =>
    have e : (((⟨#[48, 49, 50, 51, 52, 53, 54, 55, 56, 57, 97, 98, 99, 100, 101, 102]⟩ : ByteArray)[7]'h).toNat : Int) = nb (sign 7) := by kernel_rfl
    exact e
  | 8, _, h =>
    have e : (((⟨#[48, 49, 50, 51, 52, 53, 54, 55, 56, 57, 97, 98, 99, 100, 101, 102]⟩ : ByteArray)[8]'h).toNat : Int) = nb (sign 8) := by kernel_rfl
    exact e
  | 9, _, h =>
    have e : (((⟨#[48, 49, 50, 51, 52, 53, 54, 55, 56, 57, 97, 98, 99, 100, 101, 102]⟩ : ByteArray)[9]'h).toNat : Int) = nb (sign 9) := by kernel_rfl
    exact e
  | 10, _, h =>
    have e : (((⟨#[48, 49, 50, 51, 52, 53, 54, 55, 56, 57, 97, 98, 99, 100, 101, 102]⟩ : ByteArray)[10]'h).toNat : Int) = nb (sign 10) := by kernel_rfl
    exact e
  | 11, _, h =>
    have e : (((⟨#[48, 49, 50, 51, 52, 53, 54, 55, 56, 57, 97, 98, 99, 100, 101, 102]⟩ : ByteArray)[11]'h).toNat : Int) = nb (sign 11) := by kernel_rfl
    exact e
  | 12, _, h =>
    have e : (((⟨#[48, 49, 50, 51, 52, 53, 54, 55, 56, 57, 97, 98, 99, 100, 101, 102]⟩ : ByteArray)[12]'h).toNat : Int) = nb (sign 12) := by kernel_rfl
    exact e
  | 13, _, h =>
    have e : (((⟨#[48, 49, 50, 51, 52, 53, 54, 55, 56, 57, 97, 98, 99, 100, 101, 102]⟩ : ByteArray)[13]'h).toNat : Int) = nb (sign 13) := by kernel_rfl
    exact e
  | 14, _, h =>
    have e : (((⟨#[48, 49, 50, 51, 52, 53, 54, 55, 56, 57, 97, 98, 99, 100, 101, 102]⟩ : ByteArray)[14]'h).toNat : Int) = nb (sign 14) := by kernel_rfl
    exact e
  | 15, _, h =>
    have e : (((⟨#[48, 49, 50, 51, 52, 53, 54, 55, 56, 57, 97, 98, 99, 100, 101, 102]⟩ : ByteArray)[15]'h).toNat : Int) = nb (sign 15) := by kernel_rfl
    exact e
  | i + 16, h, _ => exact absurd h (by omega)
theorem sign_at (x : Int) (i : Nat) (hx : x = (i : Int)) (hi : i < 16) (h : x.toNat < (⟨#[48, 49, 50, 51, 52, 53, 54, 55, 56, 57, 97, 98, 99, 100, 101, 102]⟩ : ByteArray).size) : (((⟨#[48, 49, 50, 51, 52, 53, 54, 55, 56, 57, 97, 98, 99, 100, 101, 102]⟩ : ByteArray)[x.toNat]'h).toNat : Int) = nb (sign i) := by
  subst hx
  exact sign_nat i hi h
/-- Bytes, and behind them the rest of N, still nought. -/
def partN (N : Nat) (l : List B8) : List Value := Vb l ++ List.replicate (N - l.length) (.int .u8 0)
theorem partN_length {N : Nat} {l : List B8} (h : l.length ≤ N) : (partN N l).length = N := by simp [partN, Vb_length]; omega
theorem partN_set {N : Nat} {l : List B8} (h : l.length < N) (x : B8) : (partN N l).set l.length (.int .u8 (nb x)) = partN N (l ++ [x]) := by
  unfold partN
  rw [List.set_append_right _ _ (by rw [Vb_length]; omega), Vb_length, Nat.sub_self, Vb_append]
  obtain ⟨m, hm⟩ : ∃ m, N - l.length = m + 1 := ⟨N - l.length - 1, by omega⟩
  rw [hm, List.replicate_succ, List.set_cons_zero, List.append_assoc]
  have : N - (l ++ [x]).length = m := by simp; omega
  rw [this]
  rfl
theorem partN_next {N : Nat} {l : List B8} {j : Nat} (h : l.length + j < N) : (partN N l)[l.length + j]? = some (.int .u8 0) := by
  unfold partN
  rw [List.getElem?_append_right (by rw [Vb_length]; omega), Vb_length, Nat.add_sub_cancel_left, List.getElem?_replicate]
  rw [if_pos (by omega)]
theorem partN_whole {N : Nat} (l : List B8) (h : l.length = N) : partN N l = Vb l := by simp [partN, h]

end Go.Proofs.YtkmkblhmjeeaeaaGreatDoor
end

/-
  The law's own 'known': the document's two examples hold. Condition: the constants lie in their variable.
-/

section
set_option maxRecDepth 100000
set_option linter.unusedSimpArgs false
set_option linter.unusedVariables false
namespace Go.Proofs.YtkmkblhmjeeaeaaGreatDoor
open Go.RowKit

theorem strA0 : strOf textA = .string ⟨#[101, 51, 98, 48, 99, 52, 52, 50, 57, 56, 102, 99, 49, 99, 49, 52, 57, 97, 102, 98, 102, 52, 99, 56, 57, 57, 54, 102, 98, 57, 50, 52, 50, 55, 97, 101, 52, 49, 101, 52, 54, 52, 57, 98, 57, 51, 52, 99, 97, 52, 57, 53, 57, 57, 49, 98, 55, 56, 53, 50, 98, 56, 53, 53]⟩ := by kernel_rfl
theorem strB0 : strOf textB = .string ⟨#[98, 97, 55, 56, 49, 54, 98, 102, 56, 102, 48, 49, 99, 102, 101, 97, 52, 49, 52, 49, 52, 48, 100, 101, 53, 100, 97, 101, 50, 50, 50, 51, 98, 48, 48, 51, 54, 49, 97, 51, 57, 54, 49, 55, 55, 97, 57, 99, 98, 52, 49, 48, 102, 102, 54, 49, 102, 50, 48, 48, 49, 53, 97, 100]⟩ := by kernel_rfl
theorem strA : strOf (hexS (sha Ks []) 32) = .string ⟨#[101, 51, 98, 48, 99, 52, 52, 50, 57, 56, 102, 99, 49, 99, 49, 52, 57, 97, 102, 98, 102, 52, 99, 56, 57, 57, 54, 102, 98, 57, 50, 52, 50, 55, 97, 101, 52, 49, 101, 52, 54, 52, 57, 98, 57, 51, 52, 99, 97, 52, 57, 53, 57, 57, 49, 98, 55, 56, 53, 50, 98, 56, 53, 53]⟩ := by
  rw [known_none]
  exact strA0
theorem strB : strOf (hexS (sha Ks [97#8, 98#8, 99#8]) 32) = .string ⟨#[98, 97, 55, 56, 49, 54, 98, 102, 56, 102, 48, 49, 99, 102, 101, 97, 52, 49, 52, 49, 52, 48, 100, 101, 53, 100, 97, 101, 50, 50, 50, 51, 98, 48, 48, 51, 54, 49, 97, 51, 57, 54, 49, 55, 55, 97, 57, 99, 98, 52, 49, 48, 102, 102, 54, 49, 102, 50, 48, 48, 49, 53, 97, 100]⟩ := by
  have h : hexS (sha Ks [97#8, 98#8, 99#8]) 32 = textB := known_abc
  rw [h]
  exact strB0

theorem Vb_cells (xs : List B8) : Vb xs = (xs.map UInt8.ofBitVec).map Extern.Stop.cell := by
  unfold Vb
  rw [List.map_map]
  apply List.map_congr_left
  intro x _
  unfold nb
  rfl
/-- '==' of two digests. -/
theorem eql32 (xs ys : List B8) (hx : xs.length = 32) (hy : ys.length = 32) (W : World) : (Op.equalIn 10000 168 (.agg (Vb xs).toArray) (.agg (Vb ys).toArray)).run Tryz.prog W = .ok (decide (xs = ys)) W := by
  rw [Vb_cells, Vb_cells, run_equalIn_bytes W 9998 168 5 32 Tryz.underlying168 Tryz.underlying5 (fun w => by kernel_rfl) _ _ (by simpa using hx) (by simpa using hy)]
  congr 1
  rw [Bool.eq_iff_iff, beq_iff_eq, decide_eq_true_eq]
  exact List.map_inj_right (fun a b h => by injection h)

theorem abc_txts (w : World) (p : Nat) (hp : w.heap.size + 3 ≤ p) :
    Txts (((w.alloc (.cells #[.int .u8 97] 5 (1, 2))).alloc (.cells #[.int .u8 98, .int .u8 99] 5 (2, 3))).alloc (.cells #[.slice (some ⟨w.heap.size, 0, none⟩) 1 1, .slice (some ⟨w.heap.size + 1, 0, none⟩) 2 2] 40)) p (some ⟨w.heap.size + 2, 0, none⟩) 2 [[97], [98, 99]] := by
  have b0 : (((w.alloc (.cells #[.int .u8 97] 5 (1, 2))).alloc (.cells #[.int .u8 98, .int .u8 99] 5 (2, 3))).alloc (.cells #[.slice (some ⟨w.heap.size, 0, none⟩) 1 1, .slice (some ⟨w.heap.size + 1, 0, none⟩) 2 2] 40)).heap[w.heap.size]? = some (.cells #[.int .u8 97] 5 (1, 2)) :=
    (Below.heap_alloc _ _ _ (by simp; omega)).trans ((Below.heap_alloc _ _ _ (by simp)).trans (heap_alloc_new w _))
  have b1 : (((w.alloc (.cells #[.int .u8 97] 5 (1, 2))).alloc (.cells #[.int .u8 98, .int .u8 99] 5 (2, 3))).alloc (.cells #[.slice (some ⟨w.heap.size, 0, none⟩) 1 1, .slice (some ⟨w.heap.size + 1, 0, none⟩) 2 2] 40)).heap[w.heap.size + 1]? = some (.cells #[.int .u8 98, .int .u8 99] 5 (2, 3)) := by
    refine (Below.heap_alloc _ _ _ (by simp)).trans ?_
    have h := heap_alloc_new (w.alloc (.cells #[.int .u8 97] 5 (1, 2))) (.cells #[.int .u8 98, .int .u8 99] 5 (2, 3))
    rw [World.size_alloc] at h
    exact h
  have b2 : (((w.alloc (.cells #[.int .u8 97] 5 (1, 2))).alloc (.cells #[.int .u8 98, .int .u8 99] 5 (2, 3))).alloc (.cells #[.slice (some ⟨w.heap.size, 0, none⟩) 1 1, .slice (some ⟨w.heap.size + 1, 0, none⟩) 2 2] 40)).heap[w.heap.size + 2]? = some (.cells #[.slice (some ⟨w.heap.size, 0, none⟩) 1 1, .slice (some ⟨w.heap.size + 1, 0, none⟩) 2 2] 40 (0, 0)) := by
    have h := heap_alloc_new ((w.alloc (.cells #[.int .u8 97] 5 (1, 2))).alloc (.cells #[.int .u8 98, .int .u8 99] 5 (2, 3))) (.cells #[.slice (some ⟨w.heap.size, 0, none⟩) 1 1, .slice (some ⟨w.heap.size + 1, 0, none⟩) 2 2] 40)
    rw [World.size_alloc, World.size_alloc] at h
    exact h
  have e97 : Value.int .u8 97 = .int .u8 (nb 97) := by unfold nb; rfl
  have e98 : Value.int .u8 98 = .int .u8 (nb 98) := by unfold nb; rfl
  have e99 : Value.int .u8 99 = .int .u8 (nb 99) := by unfold nb; rfl
  refine ⟨rfl, fun _ => ⟨w.heap.size + 2, 0, rfl, by omega, fun i x hx => ?_⟩⟩
  match i, hx with
  | 0, hx =>
    simp only [List.getElem?_cons_zero, Option.some.injEq] at hx
    subst hx
    refine ⟨_, 1, 1, cell_of_row _ _ 0 _ _ _ b2, ⟨rfl, Nat.le_refl _, by unfold maxLen; omega, fun _ => ⟨w.heap.size, 0, rfl, by omega, fun j hj => ?_⟩⟩⟩
    obtain rfl : j = 0 := by omega
    rw [Nat.zero_add, cell_of_row _ _ _ _ _ _ b0]
    exact congrArg some e97
  | 1, hx =>
    simp only [List.getElem?_cons_succ, List.getElem?_cons_zero, Option.some.injEq] at hx
    subst hx
    refine ⟨_, 2, 2, cell_of_row _ _ 1 _ _ _ b2, ⟨rfl, Nat.le_refl _, by unfold maxLen; omega, fun _ => ⟨w.heap.size + 1, 0, rfl, by omega, fun j hj => ?_⟩⟩⟩
    rw [Nat.zero_add, cell_of_row _ _ _ _ _ _ b1]
    match j, hj with
    | 0, _ => exact congrArg some e98
    | 1, _ => exact congrArg some e99

end Go.Proofs.YtkmkblhmjeeaeaaGreatDoor
end

/-
  Texts: at most twelve of the texts, of at most 300 bytes, and all of them. Condition: the texts are known.
-/

section
set_option maxRecDepth 100000
set_option linter.unusedSimpArgs false
set_option linter.unusedVariables false
namespace Go.Proofs.YtkmkblhmjeeaeaaGreatDoor
open Go.RowKit

def cutT (xs : List (List B8)) : List (List B8) := (xs.take 12).map (·.take 300)

/-- A text that is nil, or has an address. -/
structure TxtN (w : World) (p : Nat) (A : Option Addr) (n c : Nat) (bs : List B8) : Prop where
  txt : Txt w p A n c bs
  nil : A = none → n = 0 ∧ c = 0
structure TxtsN (w : World) (p : Nat) (L : Option Addr) (n : Nat) (xs : List (List B8)) : Prop where
  len : xs.length = n
  cells : 0 < n → ∃ g o, L = some ⟨g, o, none⟩ ∧ g ≠ p ∧ ∀ i x, xs[i]? = some x → ∃ A k c, w.cell? ⟨g, o + i, none⟩ = some (.slice A k c) ∧ TxtN w p A k c x
theorem TxtsN.txts {w : World} {p : Nat} {L : Option Addr} {n : Nat} {xs : List (List B8)} (h : TxtsN w p L n xs) : Txts w p L n xs := by
  refine ⟨h.len, fun hn => ?_⟩
  obtain ⟨g, o, hL, hg, hc⟩ := h.cells hn
  refine ⟨g, o, hL, hg, fun i x hx => ?_⟩
  obtain ⟨A, k, c, h0, ht⟩ := hc i x hx
  exact ⟨A, k, c, h0, ht.txt⟩
theorem TxtN.at {w : World} {p q : Nat} {A : Option Addr} {n c : Nat} {bs : List B8} (h : TxtN w p A n c bs) (hq : w.heap.size ≤ q) : TxtN w q A n c bs := ⟨h.txt.at hq, h.nil⟩
theorem TxtN.below {w w' : World} {p B : Nat} {A : Option Addr} {n c : Nat} {bs : List B8} (h : TxtN w p A n c bs) (ho : Below B w w') (hB : w.heap.size ≤ B) : TxtN w' p A n c bs := ⟨h.txt.below ho hB, h.nil⟩
theorem TxtN.at' {w w' : World} {p : Nat} {A : Option Addr} {n c : Nat} {bs : List B8} (h : TxtN w' p A n c bs) (_hq : w.heap.size ≤ w'.heap.size) : TxtN w' w'.heap.size A n c bs := h.at (Nat.le_refl _)
theorem Txt.take {w : World} {p : Nat} {A : Option Addr} {n c : Nat} {bs : List B8} (h : Txt w p A n c bs) (k : Nat) (hk : k ≤ n) : Txt w p A k c (bs.take k) := by
  refine ⟨by rw [List.length_take, h.len]; omega, by have := h.cap; omega, h.capm, fun h0 => ?_⟩
  obtain ⟨g, o, hA, hg, hc⟩ := h.cells (by omega)
  refine ⟨g, o, hA, hg, fun j hj => ?_⟩
  rw [hc j (by omega)]
  simp [List.getD_eq_getElem?_getD, hj]
/-- Texts in memory of the call's own. -/
def OTexts (B : Nat) (w : World) (v : Value) (X : List (List B8)) : Prop := ∃ cells : List Value, w.ownsRow B 40 1 v X.length cells ∧ ∀ (j : Nat) (x : List B8), X[j]? = some x → ∃ A k c, cells[j]? = some (Value.slice A k c) ∧ TxtN w w.heap.size A k c x

theorem own_own_ne {w : World} {B B' e e' s s' n n' : Nat} {v v' : Value} {xs xs' : List Value} (h : w.ownsRow B e s v n xs) (h' : w.ownsRow B' e' s' v' n' xs') (hne : e ≠ e') : ∀ g, v.ownBlock = some g → v'.ownBlock ≠ some g := by
  intro g hg hg'
  rcases h.2 with ⟨rfl, _⟩ | ⟨b, cap, cur, rfl, _, hh, _⟩
  · simp [Value.ownBlock] at hg
  · rcases h'.2 with ⟨rfl, _⟩ | ⟨b', cap', cur', rfl, _, hh', _⟩
    · simp [Value.ownBlock] at hg'
    · have e1 : b = g := by simpa [Value.ownBlock] using hg
      have e2 : b' = g := by simpa [Value.ownBlock] using hg'
      subst e1 e2
      rw [hh] at hh'
      injection hh' with hh'
      injection hh' with _ ht
      exact hne ht
theorem own_ge {w : World} {B e s n : Nat} {v : Value} {xs : List Value} (h : w.ownsRow B e s v n xs) : ∀ g, v.ownBlock = some g → B ≤ g := by
  intro g hg
  rcases h.2 with ⟨rfl, _⟩ | ⟨b, cap, cur, rfl, hb, _⟩
  · simp [Value.ownBlock] at hg
  · have e1 : b = g := by simpa [Value.ownBlock] using hg
    omega
theorem own_grown {w w' : World} {B e e' s s' n n' : Nat} {v v' : Value} {xs xs' : List Value} (h : w.ownsRow B e s v n xs) (h' : w.ownsRow B e' s' v' n' xs') (hne : e ≠ e') (hg : w.grownBy w' v'.ownBlock) : w'.ownsRow B e s v n xs := by
  refine ownsRow_only (S := v'.ownBlock.toList) h ((Only.refl _ _).grown hg (fun k hk => .inl (by simp [hk]))) ?_
  intro k hk hm
  exact own_own_ne h h' hne k hk (by simpa using hm)

theorem new_slice (A : Option Addr) (m c : Nat) : ∀ u ∈ [Value.slice A m c], u.oneCell' = true := by
  intro u hu
  simp at hu
  subst hu
  rfl
theorem txt_cells {w : World} {p : Nat} {a : Addr} {n c : Nat} {bs : List B8} (h : Txt w p (some a) n c bs) : ∀ j u, (Vb bs)[j]? = some u → w.cell? (a.add j) = some u := by
  intro j u hu
  rw [Vb_get] at hu
  cases hx : bs[j]? with
  | none => rw [hx] at hu; cases hu
  | some x =>
    rw [hx] at hu
    simp only [Option.map_some, Option.some.injEq] at hu
    subst hu
    have hj : j < n := by have := (List.getElem?_eq_some_iff.1 hx).1; have := h.len; omega
    obtain ⟨g, o, hA, hg, hc⟩ := h.cells (by omega)
    simp only [Option.some.injEq] at hA
    subst hA
    rw [Addr.add_mid, hc j hj, List.getD_eq_getElem?_getD, hx]
    rfl
theorem cut_get {xs : List (List B8)} {k : Nat} (h1 : k < xs.length) (h2 : k < 12) : (cutT xs)[k]? = some (xs[k].take 300) := by
  unfold cutT
  rw [List.getElem?_map, List.getElem?_take, if_pos h2, List.getElem?_eq_getElem h1]
  rfl
theorem cut_flat {xs : List (List B8)} {k : Nat} {x : List B8} (h : (cutT xs)[k]? = some x) : ((cutT xs).take (k + 1)).flatten = ((cutT xs).take k).flatten ++ x := take_flat h
theorem cut_small (xs : List (List B8)) (k : Nat) (hk : k ≤ 12) : ((cutT xs).take k).flatten.length ≤ 300 * k := by
  induction k with
  | zero => simp
  | succ k ih =>
    cases hx : (cutT xs)[k]? with
    | none =>
      rw [List.getElem?_eq_none_iff] at hx
      rw [List.take_of_length_le (by omega)]
      have := ih (by omega)
      rw [List.take_of_length_le hx] at this
      omega
    | some x =>
      rw [cut_flat hx, List.length_append]
      have := ih (by omega)
      have hl : x.length ≤ 300 := by
        have hm := List.mem_of_getElem? hx
        unfold cutT at hm
        obtain ⟨y, _, rfl⟩ := List.mem_map.1 hm
        rw [List.length_take]
        omega
      omega

/-- The cells gathered so far. -/
def Gathered (w0 : World) (X : List (List B8)) (k : Nat) (cells : List Value) : Prop := ∀ j x, j < k → X[j]? = some x → ∃ A m c, cells[j]? = some (Value.slice A m c) ∧ TxtN w0 w0.heap.size A m c x
theorem Gathered.snoc {w0 : World} {X : List (List B8)} {k : Nat} {cells : List Value} (h : Gathered w0 X k cells) (hl : cells.length = k) {A : Option Addr} {m c : Nat} {x : List B8} (hx : X[k]? = some x) (ht : TxtN w0 w0.heap.size A m c x) : Gathered w0 X (k + 1) (cells ++ [Value.slice A m c]) := by
  intro j y hj hy
  by_cases hjk : j < k
  · obtain ⟨A', m', c', h1, h2⟩ := h j y hjk hy
    exact ⟨A', m', c', by rw [List.getElem?_append_left (by omega)]; exact h1, h2⟩
  · obtain rfl : j = k := by omega
    rw [hx] at hy
    injection hy with hy
    subst hy
    exact ⟨A, m, c, by rw [List.getElem?_append_right (by omega), hl]; simp, ht⟩

def TextsRel (w : World) (xs : List (List B8)) (n : Nat) (i v va : Value) (wr : World) : Prop := ∃ k : Nat, k ≤ n ∧ k ≤ 12 ∧ i = .int .i64 k ∧ (∃ cells, wr.ownsRow w.heap.size 40 1 v k cells ∧ Gathered w (cutT xs) k cells) ∧
  wr.ownsRow w.heap.size 5 1 va ((cutT xs).take k).flatten.length (Vb ((cutT xs).take k).flatten) ∧ Below w.heap.size w wr

end Go.Proofs.YtkmkblhmjeeaeaaGreatDoor
end

/-
  Framed, and the document's own Frame. Conditions: the texts are known, of at most 300 bytes; the constants lie in their variable.
-/

section
set_option maxRecDepth 100000
set_option linter.unusedSimpArgs false
set_option linter.unusedVariables false
namespace Go.Proofs.YtkmkblhmjeeaeaaGreatDoor
open Go.RowKit

/-- A length as four bytes. -/
def fr (n : Nat) : List B8 := [BitVec.ofNat 8 (n / 16777216), BitVec.ofNat 8 (n / 65536), BitVec.ofNat 8 (n / 256), BitVec.ofNat 8 n]
def framesOf (X : List (List B8)) : List B8 := (X.map fun x => fr x.length ++ x).flatten
theorem frames_take {X : List (List B8)} {k : Nat} {x : List B8} (h : X[k]? = some x) : framesOf (X.take (k + 1)) = framesOf (X.take k) ++ fr x.length ++ x := by
  obtain ⟨hi, rfl⟩ := List.getElem?_eq_some_iff.1 h
  unfold framesOf
  rw [List.take_succ_eq_append_getElem hi, List.map_append, List.flatten_append]
  simp
theorem frames_small (X : List (List B8)) (h : ∀ x ∈ X, x.length ≤ 300) : (framesOf X).length ≤ 304 * X.length := by
  induction X with
  | nil => simp [framesOf]
  | cons x X ih =>
    have h1 := ih fun y hy => h y (by simp [hy])
    have h2 := h x (by simp)
    unfold framesOf at *
    simp only [List.map_cons, List.flatten_cons, List.length_append, List.length_cons]
    have : (fr x.length).length = 4 := rfl
    omega
theorem frames_small_take (X : List (List B8)) (h : ∀ x ∈ X, x.length ≤ 300) (k : Nat) (hk : k ≤ X.length) : (framesOf (X.take k)).length ≤ 304 * k := by
  have := frames_small (X.take k) fun x hx => h x (List.mem_of_mem_take hx)
  rw [List.length_take] at this
  omega
theorem nb_of (n : Nat) : nb (BitVec.ofNat 8 n) = ((n % 256 : Nat) : Int) := by
  unfold nb
  rw [BitVec.toNat_ofNat]
theorem fr_cells (n : Nat) (hn : n < 4294967296) : [Value.int .u8 ((n : Int) / 16777216), .int .u8 ((n : Int) / 65536 % 256), .int .u8 ((n : Int) / 256 % 256), .int .u8 ((n : Int) % 256)] = Vb (fr n) := by
  unfold fr Vb
  simp only [List.map_cons, List.map_nil, nb_of]
  have h0 : (n : Int) / 16777216 = ((n / 16777216 % 256 : Nat) : Int) := by omega
  have h1 : (n : Int) / 65536 % 256 = ((n / 65536 % 256 : Nat) : Int) := by omega
  have h2 : (n : Int) / 256 % 256 = ((n / 256 % 256 : Nat) : Int) := by omega
  have h3 : (n : Int) % 256 = ((n % 256 : Nat) : Int) := by omega
  rw [h0, h1, h2, h3]

theorem slice4 (b : Nat) (W : World) : (Instr.sliceAt 199 (.pointer (some ⟨b, 0, none⟩)) none none none).run Tryz.prog W = .ok (.slice (some ⟨b, 0, none⟩) 4 4) W := by
  have hl : Tryz.prog.arrayLen 199 = 4 := by kernel_rfl
  have he : Tryz.prog.elem 199 = 5 := by kernel_rfl
  have hs : (sizeOf 5).run Tryz.prog W = .ok 1 W := by kernel_rfl
  have h := run_sliceAt_array_all (P := Tryz.prog) W 199 ⟨b, 0, none⟩ (by rw [hl, he]; exact Tryz.underlying199)
  rw [h, he, hs, hl]
  simp only [Result.andThen_ok, slicedAt]
  rw [if_neg (by omega), Addr.add_mid]
theorem info62 : (Tryz.prog.info? 199).map (·.size) = some 4 := by kernel_rfl

theorem Txt.away {w0 w : World} {p q : Nat} {A : Option Addr} {n c : Nat} {bs : List B8} (h : Txt w p A n c bs) (hq : q = w0.heap.size + 1) (h0 : Txt w0 p A n c bs) : Txt w q A n c bs := by
  refine ⟨h.len, h.cap, h.capm, fun hn => ?_⟩
  obtain ⟨g, o, hA, hg, hc⟩ := h.cells hn
  obtain ⟨g', o', hA', _, hc'⟩ := h0.cells hn
  rw [hA] at hA'
  simp only [Option.some.injEq, Addr.mk.injEq, and_true] at hA'
  obtain ⟨rfl, rfl⟩ := hA'
  have : g < w0.heap.size := World.block_lt_of_cell? w0 _ (hc' 0 hn)
  exact ⟨g, o, hA, by omega, hc⟩

set_option maxHeartbeats 1000000 in
set_option maxRecDepth 100000 in
theorem framed_any (ks : List B32) (w : World) (L : Option Addr) (n c : Nat) (xs : List (List B8)) (hK : Roots ks w) (ht : Txts w w.heap.size L n xs) (hn : n ≤ 40) (hsm : ∀ x ∈ xs, x.length ≤ 300) :
    Calls Tryz.prog 102 #[.slice L n c] w fun e w' => e = .returned (.agg (Vb (sha ks (framesOf xs))).toArray) ∧ Below w.heap.size w w' := by
  have hpos := hK.pos
  have hz := zero44
  have hb : Below w.heap.size w ((w.alloc (.cells (List.replicate 32 (Value.int .u8 0)).toArray 168)).alloc (.cells zeroCells.toArray 198)) := ((Below.refl _ _).alloc (Nat.le_refl _) _).alloc (by simp) _
  have hr := (Blk.new w 168 (List.replicate 32 (.int .u8 0))).alloc (.cells zeroCells.toArray 198)
  have h1 : IsStr ks ((w.alloc (.cells (List.replicate 32 (Value.int .u8 0)).toArray 168)).alloc (.cells zeroCells.toArray 198)) (w.heap.size + 1) [] := zero_str ks (blk_two w 168 198 (List.replicate 32 (.int .u8 0)) zeroCells)
  have H := Lib.hid (And.intro hb (And.intro hr (And.intro h1 (And.intro hK (And.intro ht hsm)))))
  clear hb hr h1 hK ht hsm
  go_enter Tryz.func102, Tryz.ntmps102
  go_wp2_with fail
  go_loopw [9] (fun i wr => ∃ k : Nat, k ≤ n ∧ i = .int .i64 k ∧ IsStr ks wr (w.heap.size + 1) (framesOf (xs.take k)) ∧ Blk wr w.heap.size 168 (List.replicate 32 (.int .u8 0)) ∧ Below w.heap.size w wr) (fun i _ => n - (intOf i).toNat)
  case atStart => exact ⟨0, by omega, rfl, H.out.2.2.1, H.out.2.1, H.out.1⟩
  case round =>
    obtain ⟨k, hk, rfl, hs, hres, hbel⟩ := hrel
    have hl := H.out.2.2.2.2.1.len
    have hsk := frames_small_take xs H.out.2.2.2.2.2 k (by omega)
    by_cases hkn : k < n
    · obtain ⟨g, o, rfl, hgp, hc⟩ := H.out.2.2.2.2.1.cells (by omega)
      obtain ⟨A, m, cc, hcell, htx⟩ := hc k (xs[k]'(by omega)) (List.getElem?_eq_getElem _)
      have hcw := (hbel.cell (World.block_lt_of_cell? w _ hcell)).trans hcell
      have hft := frames_take (X := xs) (k := k) (List.getElem?_eq_getElem (by omega))
      have hm3 := H.out.2.2.2.2.2 _ (List.getElem_mem (l := xs) (n := k) (by omega))
      generalize xs[k]'(by omega) = x at htx hft hm3
      have hml := htx.len
      rw [hml] at hm3
      have HO := Lib.hid (And.intro hs (And.intro hres (And.intro hbel (And.intro htx hft))))
      clear hs hres hbel htx hft hc hcell
      go_wp2_with fail
      refine (frame_any wr m (by omega)).mono ?_
      rintro e w1 ⟨rfl, hb1⟩
      have HB1 := Lib.hid hb1
      clear hb1
      have hs4 := slice4
      go_wp2_with (refine wpList_store_blk rfl 199 (.tmp 6) (.tmp 15) rfl w1.heap.size 0 (Vb (fr m)) rfl (by rw [← fr_cells m (by omega)]; rfl) (Blk.new w1 199 (List.replicate 4 (.int .u8 0))) (by simp [Vb_length, fr]) (info62.trans (by simp [Vb_length, fr])) (Vb_oneCell _) ?_; intro w2 hA hO)
      rw [over_whole (by simp [Vb_length, fr])] at hA
      have hp1 := HO.out.1.lt
      have hs1 := HB1.out.size
      have hA1 : Below w1.heap.size w1 w2 := ((Below.refl _ _).alloc (Nat.le_refl _) _).trans (hO.below (B := w1.heap.size) (by simp) (by simp))
      have hB2 : Below wr.heap.size wr w2 := HB1.out.trans (hA1.mono hs1)
      have ht2 : Txt w2 (w.heap.size + 1) (some ⟨w1.heap.size, 0, none⟩) 4 4 (fr m) := by
        refine ⟨rfl, Nat.le_refl _, by unfold maxLen; omega, fun _ => ⟨w1.heap.size, 0, rfl, by omega, fun j hj => ?_⟩⟩
        rw [Nat.zero_add, hA.cell, Vb_get, List.getD_eq_getElem?_getD, List.getElem?_eq_getElem (by exact hj)]
        rfl
      have HW2 := Lib.hid (And.intro hB2 ht2)
      clear hA hO hA1 hB2 ht2
      refine (tell_any ks w2 (w.heap.size + 1) (framesOf (xs.take k)) (some ⟨w1.heap.size, 0, none⟩) 4 4 (fr m) (by omega) (H.out.2.2.2.1.below (HO.out.2.2.1.trans (HW2.out.1.mono HO.out.2.2.1.size)) hpos) (HO.out.1.below HW2.out.1 hp1) HW2.out.2 (by omega)).mono ?_
      rintro e w3 ⟨rfl, hs3, ho3⟩
      have hB3 : Below w.heap.size w w3 := (HO.out.2.2.1.trans (HW2.out.1.mono HO.out.2.2.1.size)).trans (ho3.below (B := w.heap.size) (HO.out.2.2.1.trans (HW2.out.1.mono HO.out.2.2.1.size)).size (by simp))
      have hR3 := (HO.out.2.1.below HW2.out.1 HO.out.2.1.lt).only ho3 (by simp)
      have H3 := Lib.hid (And.intro hs3 (And.intro hB3 hR3))
      clear hs3 ho3 hB3 hR3
      go_wp2_with fail
      have hf4 : (fr m).length = 4 := rfl
      refine (tell_any ks w3 (w.heap.size + 1) (framesOf (xs.take k) ++ fr m) A m cc x (by omega) (H.out.2.2.2.1.below H3.out.2.1 hpos) H3.out.1 ((HO.out.2.2.2.1.below H3.out.2.1 (Nat.le_refl _)).away (by rfl) HO.out.2.2.2.1) (by rw [List.length_append, hf4]; omega)).mono ?_
      rintro e w4 ⟨rfl, hs4', ho4⟩
      have hB4 : Below w.heap.size w w4 := H3.out.2.1.trans (ho4.below (B := w.heap.size) H3.out.2.1.size (by simp))
      have hR4 := H3.out.2.2.only ho4 (by simp)
      have H4 := Lib.hid (And.intro hs4' (And.intro hB4 hR4))
      clear hs4' ho4 hB4 hR4
      go_wp2_with fail
      go_roundw
      case rel =>
        refine ⟨k + 1, by omega, by go_num, ?_, H4.out.2.2, H4.out.2.1⟩
        rw [HO.out.2.2.2.2, hml]
        exact H4.out.1
      case measure => simp [intOf]; omega
    · obtain rfl : k = n := by omega
      rw [List.take_of_length_le (by omega)] at hs hsk
      have HO := Lib.hid (And.intro hs (And.intro hres hbel))
      clear hs hres hbel
      go_wp2_with fail
      refine (sum_any ks wr (some ⟨w.heap.size + 1, 0, none⟩) (framesOf xs) (H.out.2.2.2.1.below HO.out.2.2 hpos) (.inr ⟨_, rfl, HO.out.1⟩) (by omega)).mono ?_
      rintro e w3 ⟨rfl, hb3⟩
      have hB3 : Below w.heap.size w w3 := HO.out.2.2.trans (hb3.mono HO.out.2.2.size)
      have hR3 := HO.out.2.1.below hb3 HO.out.2.1.lt
      have H3 := Lib.hid (And.intro hB3 hR3)
      clear hb3 hB3 hR3
      go_wp2_with (refine wpList_store_blk rfl 168 (.tmp 2) (.tmp 21) rfl w.heap.size 0 (Vb (sha ks (framesOf xs))) rfl rfl H3.out.2 (by simp [Vb_length, sha_length]) (info31.trans (by simp [Vb_length, sha_length])) (Vb_oneCell _) ?_; intro w5 hA hO)
      rw [over_whole (by simp [Vb_length, sha_length])] at hA
      refine bodyPost_ret (v := .agg (Vb (sha ks (framesOf xs))).toArray) ?_ rfl ⟨rfl, ?_⟩
      · exact ret_cell rfl rfl (run_loadVar_mid _ _ 0 168 _ _ hA.range Tryz.underlying168 rfl (info31.trans (by simp [Vb_length, sha_length])))
      · exact H3.out.1.trans (hO.below (B := w.heap.size) H3.out.1.size (by simp))

end Go.Proofs.YtkmkblhmjeeaeaaGreatDoor
end

/-
  The document's own Frame. Condition: the texts are known, of at most 300 bytes.
-/

section
set_option maxRecDepth 100000
set_option linter.unusedSimpArgs false
set_option linter.unusedVariables false
namespace Go.Proofs.YtkmkblhmjeeaeaaGreatDoor
open Go.RowKit

theorem fr_small (n : Nat) (hn : n ≤ 300) : [Value.int .u8 ((n : Int) / 16777216), .int .u8 ((n : Int) / 65536), .int .u8 ((n : Int) / 256), .int .u8 ((n : Int) % 256)] = Vb (fr n) := by
  rw [← fr_cells n (by omega)]
  have h1 : (n : Int) / 65536 = (n : Int) / 65536 % 256 := by omega
  have h2 : (n : Int) / 256 = (n : Int) / 256 % 256 := by omega
  rw [← h1, ← h2]
theorem four_one (a b c d : Int) : ∀ u ∈ [Value.int .u8 a, .int .u8 b, .int .u8 c, .int .u8 d], u.oneCell' = true := by
  intro u hu
  simp only [List.mem_cons, List.not_mem_nil, or_false] at hu
  rcases hu with rfl | rfl | rfl | rfl <;> rfl
theorem new_row (w : World) (cs : List Value) (t : TypeId) : ∀ j u, cs[j]? = some u → (w.alloc (.cells cs.toArray t)).cell? ((⟨w.heap.size, 0, none⟩ : Addr).add j) = some u := by
  intro j u hu
  rw [Addr.add_mid, Nat.zero_add, (Blk.new w t cs).cell j, hu]

end Go.Proofs.YtkmkblhmjeeaeaaGreatDoor
end

/-
  A region that draws its order, by what each operation leaves: whatever the order, behind each operation its own word holds, and the words of those that came ahead still do. Conditions: those of the theorem.
-/

section
set_option maxRecDepth 100000
set_option linter.unusedSimpArgs false
set_option linter.unusedVariables false
namespace Go.Proofs.YtkmkblhmjeeaeaaGreatDoor

/-- The slots of a region's operations, filled with v. -/
def fillR : List (Option Tmp) → (Nat → Value) → Nat → Act → Act
  | [], _, _, a => a
  | d :: ds, v, k, a => fillR ds v (k + 1) (a.put d (v k))
def setV (v : Nat → Value) (i : Nat) (x : Value) : Nat → Value := fun j => if j = i then x else v j
/-- No two operations write one slot. -/
def apartR : List (Option Tmp) → Bool
  | [] => true
  | none :: ds => apartR ds
  | some d :: ds => !(ds.contains (some d)) && apartR ds
/-- Each operation waits for earlier ones alone. -/
def lexR (ops : Array Oper) : Bool := (List.range ops.size).all fun i => match ops[i]? with | some o => o.after.all fun e => decide (e.on < i) | none => true

theorem put_put (a : Act) (d : Option Tmp) (x y : Value) : (a.put d x).put d y = a.put d y := by
  cases d with
  | none => rfl
  | some d => simp [Act.put]
theorem put_own (a : Act) (d : Tmp) : a.put (some d) (a.tmps.getD d undef) = a := by
  obtain ⟨t, ds⟩ := a
  simp only [Act.put]
  congr 1
  apply Array.ext
  · simp
  · intro i h1 h2
    by_cases h : d = i
    · subst h
      have : d < t.size := h2
      simp [this]
    · rw [Array.getElem_setIfInBounds_ne (by assumption) h]
theorem put_through : ∀ (ds : List (Option Tmp)) (v : Nat → Value) (k : Nat) (a : Act) (d : Option Tmp) (x : Value), (∀ t, d = some t → some t ∉ ds) → (fillR ds v k a).put d x = fillR ds v k (a.put d x)
  | [], _, _, _, _, _, _ => rfl
  | d' :: ds, v, k, a, d, x, h => by
    unfold fillR
    rw [put_through ds v (k + 1) (a.put d' (v k)) d x (fun t ht hm => h t ht (List.mem_cons_of_mem _ hm))]
    rw [Act.put_comm a (v k) x (fun t ht hd => h t hd (by rw [ht]; exact List.mem_cons_self))]
theorem fill_past : ∀ (ds : List (Option Tmp)) (v v' : Nat → Value) (k : Nat) (a : Act), (∀ j, k ≤ j → v j = v' j) → fillR ds v k a = fillR ds v' k a
  | [], _, _, _, _, _ => rfl
  | d :: ds, v, v', k, a, h => by
    unfold fillR
    rw [h k (Nat.le_refl _)]
    exact fill_past ds v v' (k + 1) _ (fun j hj => h j (by omega))
theorem put_fill : ∀ (ds : List (Option Tmp)), apartR ds = true → ∀ (v : Nat → Value) (k : Nat) (a : Act) (i : Nat) (d : Option Tmp) (x : Value), ds[i]? = some d → (fillR ds v k a).put d x = fillR ds (setV v (k + i) x) k a
  | [], _, _, _, _, _, _, _, h => by simp at h
  | d' :: ds, hn, v, k, a, 0, d, x, h => by
    simp only [List.getElem?_cons_zero, Option.some.injEq] at h
    subst h
    unfold fillR
    rw [put_through ds v (k + 1) _ d' x (fun t ht hm => by
      subst ht
      simp only [apartR, Bool.and_eq_true, Bool.not_eq_true', List.contains_eq_mem, decide_eq_false_iff_not] at hn
      exact hn.1 hm), put_put]
    have e : setV v (k + 0) x k = x := by simp [setV]
    rw [e]
    exact fill_past ds v _ (k + 1) _ (fun j hj => by simp [setV]; omega)
  | d' :: ds, hn, v, k, a, i + 1, d, x, h => by
    simp only [List.getElem?_cons_succ] at h
    have hn' : apartR ds = true := by
      cases d' with
      | none => exact hn
      | some t => simp only [apartR, Bool.and_eq_true] at hn; exact hn.2
    unfold fillR
    rw [put_fill ds hn' v (k + 1) (a.put d' (v k)) i d x h]
    have e : setV v (k + (i + 1)) x k = v k := by simp [setV]
    rw [e, show k + 1 + i = k + (i + 1) by omega]
theorem fill_start (a : Act) : ∀ (ds : List (Option Tmp)) (k : Nat) (v : Nat → Value), (∀ i t, ds[i]? = some (some t) → v (k + i) = a.tmps.getD t undef) → fillR ds v k a = a
  | [], _, _, _ => rfl
  | none :: ds, k, v, h => by
    unfold fillR
    exact fill_start a ds (k + 1) v (fun i t ht => by rw [show k + 1 + i = k + (i + 1) by omega]; exact h (i + 1) t (by simpa using ht))
  | some t :: ds, k, v, h => by
    unfold fillR
    rw [show v k = a.tmps.getD t undef from h 0 t (by simp), put_own]
    exact fill_start a ds (k + 1) v (fun i t ht => by rw [show k + 1 + i = k + (i + 1) by omega]; exact h (i + 1) t (by simpa using ht))

/-- How many operations are still to come up. -/
def leftR (listed : Array Bool) : Nat := listed.toList.countP (fun b => !b)
theorem count_set : ∀ (l : List Bool) (i : Nat), l[i]? = some false → (l.set i true).countP (fun b => !b) + 1 = l.countP (fun b => !b)
  | [], _, h => by simp at h
  | b :: l, 0, h => by
    simp only [List.getElem?_cons_zero, Option.some.injEq] at h
    subst h
    simp [List.countP_cons]
  | b :: l, i + 1, h => by
    simp only [List.getElem?_cons_succ] at h
    have := count_set l i h
    simp only [List.set_cons_succ, List.countP_cons]
    omega
theorem leftR_set {listed : Array Bool} {i : Nat} (h : listed.getD i true = false) : leftR (listed.setIfInBounds i true) + 1 = leftR listed := by
  have hi : i < listed.size := by
    rcases Nat.lt_or_ge i listed.size with h' | h'
    · exact h'
    · simp [Array.getElem?_eq_none h'] at h
  have hf : listed.toList[i]? = some false := by simpa [hi] using h
  unfold leftR
  rw [Array.toList_setIfInBounds]
  exact count_set _ _ hf

section
variable {P : Program} {ops : Array Oper} {Q : Exit → Act → World → Prop} {md : Region.Mode}

theorem all_listed (hl : lexR ops = true) {listed : Array Bool} (hs : listed.size = ops.size) (hr : Region.ready md ops listed = []) : ∀ i, i < ops.size → listed.getD i false = true := by
  intro i
  induction i using Nat.strongRecOn with
  | ind i ih =>
    intro hi
    cases hb : listed.getD i false with
    | true => rfl
    | false =>
      exfalso
      have hm : i ∈ Region.ready md ops listed := by
        rw [mem_ready]
        refine ⟨by simpa [hs, hi] using hb, ops[i], by simp [hi], fun e he _ => ?_⟩
        have := List.all_eq_true.1 hl i (List.mem_range.2 hi)
        rw [Array.getElem?_eq_getElem hi] at this
        simp only [Array.all_eq_true_iff_forall_mem, decide_eq_true_eq] at this
        have hlt := this e he
        exact ih e.on hlt (by omega)
      rw [hr] at hm
      cases hm

/-- The rule. V i x w: what operation i's value x is good for in w; it is kept by Rel. R: what holds of the world all along. -/
theorem wpAny_inv (ds : List (Option Tmp)) (hds : ops.toList.map (·.dst) = ds) (hap : apartR ds = true) (hl : lexR ops = true)
    (V : Nat → Value → World → Prop) (R : World → Prop) (Rel : World → World → Prop) (a0 : Act)
    (hst : ∀ i x w w', V i x w → Rel w w' → V i x w')
    (hstep : ∀ i o, ops[i]? = some o → ∀ (v : Nat → Value) (w : World), R w → (∀ e ∈ o.after, Region.binds md e = true → V e.on (v e.on) w) →
      ∀ K : Act → World → Prop, Shut (∀ x w', R w' → Rel w w' → V i x w' → K ((fillR ds v 0 a0).put o.dst x) w') →
        if Region.wanted o (yielded ops (fillR ds v 0 a0).tmps) = true then Oper.wp P o (fillR ds v 0 a0) w K Q else K ((fillR ds v 0 a0).put o.dst undef) w)
    (hfin : ∀ (v : Nat → Value) (w : World), R w → (∀ i, i < ops.size → V i (v i) w) → Q .normal (fillR ds v 0 a0) w) :
    ∀ (fuel : Nat) (listed : Array Bool) (v : Nat → Value) (w : World), listed.size = ops.size → leftR listed ≤ fuel → R w → (∀ i, listed.getD i false = true → V i (v i) w) →
      wpAny P md ops Q fuel listed (fillR ds v 0 a0) w := by
  intro fuel
  induction fuel with
  | zero =>
    intro listed v w hs hf hR hV
    have hall : ∀ i, i < ops.size → listed.getD i false = true := by
      intro i hi
      cases hb : listed.getD i false with
      | true => rfl
      | false =>
        have h' : listed.getD i true = false := by simpa [hs, hi] using hb
        have := leftR_set h'
        omega
    refine ⟨?_, hfin v w hR (fun i hi => hV i (hall i hi))⟩
    cases hr : Region.ready md ops listed with
    | nil => rfl
    | cons i rs =>
      have hm : i ∈ Region.ready md ops listed := by rw [hr]; simp
      obtain ⟨h0, o, ho, _⟩ := mem_ready.1 hm
      have hi := (Array.getElem?_eq_some_iff.1 ho).1
      have := hall i hi
      simp [hs, hi] at this h0
      rw [this] at h0
      cases h0
  | succ fuel ih =>
    intro listed v w hs hf hR hV
    refine ⟨fun hr => hfin v w hR (fun i hi => hV i (all_listed hl hs hr i hi)), fun i hi => ?_⟩
    obtain ⟨h0, o, ho, hall⟩ := mem_ready.1 hi
    have hil := (Array.getElem?_eq_some_iff.1 ho).1
    refine wpOp_step ho fun K hK => hstep i o ho v w hR (fun e he hb => hV e.on (hall e he hb)) K ?_
    intro x w' hR' hrel hV'
    refine hK _ _ ?_
    have hd : ds[i]? = some o.dst := by
      rw [← hds, List.getElem?_map]
      have : ops.toList[i]? = some o := by simpa using ho
      rw [this]
      rfl
    rw [put_fill ds hap v 0 a0 i o.dst x hd, Nat.zero_add]
    refine ih _ _ _ (by simpa using hs) (by have := leftR_set h0; omega) hR' fun j hj => ?_
    by_cases hji : j = i
    · subst hji
      simpa [setV] using hV'
    · have : listed.getD j false = true := by rw [getD_set_ne false (Ne.symm hji)] at hj; exact hj
      have hvj := hst j _ _ _ (hV j this) hrel
      simpa [setV, hji] using hvj

theorem wp_region_inv (ds : List (Option Tmp)) (V : Nat → Value → World → Prop) (R : World → Prop) (Rel : World → World → Prop) {id : Nat} {a0 : Act} {w : World} (hm : P.follows .mixedOrders = true)
    (hds : ops.toList.map (·.dst) = ds) (hap : apartR ds = true) (hl : lexR ops = true) (hR : R w.drew)
    (hst : ∀ i x w w', V i x w → Rel w w' → V i x w')
    (hstep : ∀ i o, ops[i]? = some o → ∀ (v : Nat → Value) (w : World), R w → (∀ e ∈ o.after, Region.binds .any e = true → V e.on (v e.on) w) →
      ∀ K : Act → World → Prop, Shut (∀ x w', R w' → Rel w w' → V i x w' → K ((fillR ds v 0 a0).put o.dst x) w') →
        if Region.wanted o (yielded ops (fillR ds v 0 a0).tmps) = true then Oper.wp P o (fillR ds v 0 a0) w K Q else K ((fillR ds v 0 a0).put o.dst undef) w)
    (hfin : ∀ (v : Nat → Value) (w : World), R w → (∀ i, i < ops.size → V i (v i) w) → Q .normal (fillR ds v 0 a0) w) : (Code.region id ops true).wp P Q a0 w := by
  refine wp_region_any hm ?_
  have hfill : fillR ds (fun i => match ds[i]? with | some (some t) => a0.tmps.getD t undef | _ => undef) 0 a0 = a0 := by
    refine fill_start a0 ds 0 _ (fun i t ht => ?_)
    simp only [Nat.zero_add, ht]
  have := wpAny_inv (P := P) (Q := Q) (md := .any) ds hds hap hl V R Rel a0 hst hstep hfin ops.size (Array.replicate ops.size false) (fun i => match ds[i]? with | some (some t) => a0.tmps.getD t undef | _ => undef) w.drew (by simp) ?_ hR ?_
  · rw [hfill] at this
    exact this
  · unfold leftR
    refine Nat.le_trans List.countP_le_length ?_
    simp
  · intro i hi
    exfalso
    rcases Nat.lt_or_ge i ops.size with h' | h'
    · simp [h'] at hi
    · simp [Nat.not_lt.2 h'] at hi

/-- One operation's step: from R and the words of those that it waits for. -/
def StepR (P : Program) (ops : Array Oper) (Q : Exit → Act → World → Prop) (ds : List (Option Tmp)) (V : Nat → Value → World → Prop) (R : World → Prop) (Rel : World → World → Prop) (a0 : Act) (i : Nat) : Prop :=
  ∀ o, ops[i]? = some o → ∀ (v : Nat → Value) (w : World), R w → (∀ e ∈ o.after, Region.binds .any e = true → V e.on (v e.on) w) →
    ∀ K : Act → World → Prop, Shut (∀ x w', R w' → Rel w w' → V i x w' → K ((fillR ds v 0 a0).put o.dst x) w') →
      if Region.wanted o (yielded ops (fillR ds v 0 a0).tmps) = true then Oper.wp P o (fillR ds v 0 a0) w K Q else K ((fillR ds v 0 a0).put o.dst undef) w
theorem StepR.of {ds : List (Option Tmp)} {V : Nat → Value → World → Prop} {R : World → Prop} {Rel : World → World → Prop} {a0 : Act} {i : Nat} {o : Oper} (ho : ops[i]? = some o) (deps : List Nat)
    (hd : (o.after.toList.filter (Region.binds .any)).map (·.on) = deps)
    (h : ∀ (v : Nat → Value) (w : World), R w → (∀ j ∈ deps, V j (v j) w) → ∀ K : Act → World → Prop, Shut (∀ x w', R w' → Rel w w' → V i x w' → K ((fillR ds v 0 a0).put o.dst x) w') →
      if Region.wanted o (yielded ops (fillR ds v 0 a0).tmps) = true then Oper.wp P o (fillR ds v 0 a0) w K Q else K ((fillR ds v 0 a0).put o.dst undef) w) : StepR P ops Q ds V R Rel a0 i := by
  intro o' ho' v w hR hdep K hK
  rw [ho] at ho'
  cases ho'
  refine h v w hR (fun j hj => ?_) K hK
  subst hd
  obtain ⟨e, he, rfl⟩ := List.mem_map.1 hj
  obtain ⟨h1, h2⟩ := List.mem_filter.1 he
  exact hdep e (by simpa using h1) h2
theorem wp_region_steps (ds : List (Option Tmp)) (V : Nat → Value → World → Prop) (R : World → Prop) (Rel : World → World → Prop) (n : Nat) {id : Nat} {a0 : Act} {w : World} (hm : P.follows .mixedOrders = true)
    (hn : ops.size = n) (hds : ops.toList.map (·.dst) = ds) (hap : apartR ds = true) (hl : lexR ops = true) (hR : R w.drew)
    (hst : ∀ i x w w', V i x w → Rel w w' → V i x w')
    (hstep : ∀ i, i < n → StepR P ops Q ds V R Rel a0 i)
    (hfin : ∀ (v : Nat → Value) (w : World), R w → (∀ i, i < n → V i (v i) w) → Q .normal (fillR ds v 0 a0) w) : (Code.region id ops true).wp P Q a0 w := by
  subst hn
  refine wp_region_inv ds V R Rel hm hds hap hl hR hst (fun i o ho => ?_) hfin
  exact hstep i (Array.getElem?_eq_some_iff.1 ho).1 o ho
end
/-! The same, where the word of an operation may look at the values of others that it waits for, and each operation leaves what it leaves. -/
theorem getD_set_mono {listed : Array Bool} {i j : Nat} (h : listed.getD j false = true) : (listed.setIfInBounds i true).getD j false = true := by
  by_cases hji : j = i
  · subst hji
    have hj : j < listed.size := by
      rcases Nat.lt_or_ge j listed.size with h' | h'
      · exact h'
      · simp [Array.getElem?_eq_none h'] at h
    simp [hj]
  · rw [getD_set_ne false (Ne.symm hji)]
    exact h
theorem getD_set_own {listed : Array Bool} {i : Nat} (h : listed.getD i true = false) : (listed.setIfInBounds i true).getD i false = true := by
  have hi : i < listed.size := by
    rcases Nat.lt_or_ge i listed.size with h' | h'
    · exact h'
    · simp [Array.getElem?_eq_none h'] at h
  simp [hi]
section
variable {P : Program} {ops : Array Oper} {Q : Exit → Act → World → Prop} {md : Region.Mode}
/-- One operation's step. -/
def StepL (P : Program) (md : Region.Mode) (ops : Array Oper) (Q : Exit → Act → World → Prop) (ds : List (Option Tmp)) (V : Nat → (Nat → Value) → World → Prop) (R : World → Prop) (Rel : Nat → World → World → Prop) (a0 : Act) (i : Nat) : Prop :=
  ∀ o, ops[i]? = some o → ∀ (v : Nat → Value) (w : World), R w → (∀ e ∈ o.after, Region.binds md e = true → V e.on v w) →
    ∀ K : Act → World → Prop, Shut (∀ x w', R w' → Rel i w w' → V i (setV v i x) w' → K ((fillR ds v 0 a0).put o.dst x) w') →
      if Region.wanted o (yielded ops (fillR ds v 0 a0).tmps) = true then Oper.wp P o (fillR ds v 0 a0) w K Q else K ((fillR ds v 0 a0).put o.dst undef) w
/-- Does operation i wait for each of these? -/
def waitsR (md : Region.Mode) (ops : Array Oper) (i : Nat) (look : List Nat) : Bool := match ops[i]? with | some o => look.all fun j => o.after.any fun e => Region.binds md e && e.on == j | none => true

theorem StepL.of {ds : List (Option Tmp)} {V : Nat → (Nat → Value) → World → Prop} {R : World → Prop} {Rel : Nat → World → World → Prop} {a0 : Act} {i : Nat} {o : Oper} (ho : ops[i]? = some o) (deps : List Nat)
    (hd : waitsR md ops i deps = true)
    (h : ∀ (v : Nat → Value) (w : World), R w → (∀ j ∈ deps, V j v w) → ∀ K : Act → World → Prop, Shut (∀ x w', R w' → Rel i w w' → V i (setV v i x) w' → K ((fillR ds v 0 a0).put o.dst x) w') →
      if Region.wanted o (yielded ops (fillR ds v 0 a0).tmps) = true then Oper.wp P o (fillR ds v 0 a0) w K Q else K ((fillR ds v 0 a0).put o.dst undef) w) : StepL P md ops Q ds V R Rel a0 i := by
  intro o' ho' v w hR hdep K hK
  rw [ho] at ho'
  cases ho'
  refine h v w hR (fun j hj => ?_) K hK
  unfold waitsR at hd
  rw [ho] at hd
  have := List.all_eq_true.1 hd j hj
  obtain ⟨q, hq, he⟩ := Array.any_eq_true.1 this
  simp only [Bool.and_eq_true, beq_iff_eq] at he
  have := hdep o.after[q] (Array.getElem_mem _) he.1
  rwa [he.2] at this

theorem wpAny_look (ds : List (Option Tmp)) (hds : ops.toList.map (·.dst) = ds) (hap : apartR ds = true) (hl : lexR ops = true)
    (V : Nat → (Nat → Value) → World → Prop) (look : Nat → List Nat) (R : World → Prop) (Rel : Nat → World → World → Prop) (a0 : Act)
    (hloc : ∀ i v j x w, V i v w → j ≠ i → j ∉ look i → V i (setV v j x) w)
    (hlook : ∀ i, i < ops.size → waitsR md ops i (look i) = true)
    (hst : ∀ i k v w w', k ≠ i → V i v w → Rel k w w' → V i v w')
    (hstep : ∀ i, i < ops.size → StepL P md ops Q ds V R Rel a0 i)
    (hfin : ∀ (v : Nat → Value) (w : World), R w → (∀ i, i < ops.size → V i v w) → Q .normal (fillR ds v 0 a0) w) :
    ∀ (fuel : Nat) (listed : Array Bool) (v : Nat → Value) (w : World), listed.size = ops.size → leftR listed ≤ fuel → R w → (∀ i, listed.getD i false = true → V i v w ∧ ∀ j ∈ look i, listed.getD j false = true) →
      wpAny P md ops Q fuel listed (fillR ds v 0 a0) w := by
  intro fuel
  induction fuel with
  | zero =>
    intro listed v w hs hf hR hV
    have hall : ∀ i, i < ops.size → listed.getD i false = true := by
      intro i hi
      cases hb : listed.getD i false with
      | true => rfl
      | false =>
        have h' : listed.getD i true = false := by simpa [hs, hi] using hb
        have := leftR_set h'
        omega
    refine ⟨?_, hfin v w hR (fun i hi => (hV i (hall i hi)).1)⟩
    cases hr : Region.ready md ops listed with
    | nil => rfl
    | cons i rs =>
      have hm : i ∈ Region.ready md ops listed := by rw [hr]; simp
      obtain ⟨h0, o, ho, _⟩ := mem_ready.1 hm
      have hi := (Array.getElem?_eq_some_iff.1 ho).1
      have := hall i hi
      simp [hs, hi] at this h0
      rw [this] at h0
      cases h0
  | succ fuel ih =>
    intro listed v w hs hf hR hV
    refine ⟨fun hr => hfin v w hR (fun i hi => (hV i (all_listed hl hs hr i hi)).1), fun i hi => ?_⟩
    obtain ⟨h0, o, ho, hall⟩ := mem_ready.1 hi
    have hil := (Array.getElem?_eq_some_iff.1 ho).1
    refine wpOp_step ho fun K hK => hstep i hil o ho v w hR (fun e he hb => (hV e.on (hall e he hb)).1) K ?_
    intro x w' hR' hrel hV'
    refine hK _ _ ?_
    have hd : ds[i]? = some o.dst := by
      rw [← hds, List.getElem?_map]
      have : ops.toList[i]? = some o := by simpa using ho
      rw [this]
      rfl
    rw [put_fill ds hap v 0 a0 i o.dst x hd, Nat.zero_add]
    refine ih _ _ _ (by simpa using hs) (by have := leftR_set h0; omega) hR' fun j hj => ?_
    by_cases hji : j = i
    · subst hji
      refine ⟨hV', fun k hk => ?_⟩
      have hw := hlook j hil
      unfold waitsR at hw
      rw [ho] at hw
      have := List.all_eq_true.1 hw k hk
      obtain ⟨q, hq, he⟩ := Array.any_eq_true.1 this
      simp only [Bool.and_eq_true, beq_iff_eq] at he
      have hl' := hall o.after[q] (Array.getElem_mem _) he.1
      rw [he.2] at hl'
      exact getD_set_mono hl'
    · have hlj : listed.getD j false = true := by rw [getD_set_ne false (Ne.symm hji)] at hj; exact hj
      obtain ⟨hvj, hlk⟩ := hV j hlj
      refine ⟨hloc j v i x w' (hst j i _ _ _ (Ne.symm hji) hvj hrel) (Ne.symm hji) (fun hi' => ?_), fun k hk => getD_set_mono (hlk k hk)⟩
      have h1 := hlk i hi'
      have hil' : i < listed.size := by omega
      simp [hil'] at h0 h1
      rw [h1] at h0
      cases h0

theorem wp_region_look (ds : List (Option Tmp)) (V : Nat → (Nat → Value) → World → Prop) (look : Nat → List Nat) (R : World → Prop) (Rel : Nat → World → World → Prop) (n : Nat) {id : Nat} {a0 : Act} {w : World} (hm : P.follows .mixedOrders = true)
    (hn : ops.size = n) (hds : ops.toList.map (·.dst) = ds) (hap : apartR ds = true) (hl : lexR ops = true) (hR : R w.drew)
    (hloc : ∀ i v j x w, V i v w → j ≠ i → j ∉ look i → V i (setV v j x) w)
    (hlook : ∀ i, i < n → waitsR .any ops i (look i) = true)
    (hst : ∀ i k v w w', k ≠ i → V i v w → Rel k w w' → V i v w')
    (hstep : ∀ i, i < n → StepL P .any ops Q ds V R Rel a0 i)
    (hfin : ∀ (v : Nat → Value) (w : World), R w → (∀ i, i < n → V i v w) → Q .normal (fillR ds v 0 a0) w) : (Code.region id ops true).wp P Q a0 w := by
  subst hn
  refine wp_region_any hm ?_
  have hfill : fillR ds (fun i => match ds[i]? with | some (some t) => a0.tmps.getD t undef | _ => undef) 0 a0 = a0 := by
    refine fill_start a0 ds 0 _ (fun i t ht => ?_)
    simp only [Nat.zero_add, ht]
  have := wpAny_look (P := P) (Q := Q) (md := .any) ds hds hap hl V look R Rel a0 hloc hlook hst hstep hfin ops.size (Array.replicate ops.size false) (fun i => match ds[i]? with | some (some t) => a0.tmps.getD t undef | _ => undef) w.drew (by simp) ?_ hR ?_
  · rw [hfill] at this
    exact this
  · unfold leftR
    refine Nat.le_trans List.countP_le_length ?_
    simp
  · intro i hi
    exfalso
    rcases Nat.lt_or_ge i ops.size with h' | h'
    · simp [h'] at hi
    · simp [Nat.not_lt.2 h'] at hi
end
end Go.Proofs.YtkmkblhmjeeaeaaGreatDoor
end

/-
  A region that draws its order, whose last operation waits for all others: whatever the order, each operation's word holds ahead of the last one, and what it leaves is what the region leaves. Conditions: those of the theorem.
-/

section
set_option maxRecDepth 100000
set_option linter.unusedSimpArgs false
set_option linter.unusedVariables false
namespace Go.Proofs.YtkmkblhmjeeaeaaGreatDoor
section
variable {P : Program} {ops : Array Oper} {Q : Exit → Act → World → Prop} {md : Region.Mode}

theorem wpAny_done (a : Act) (w : World) {listed : Array Bool} (hs : listed.size = ops.size) (hall : ∀ i, i < ops.size → listed.getD i false = true) (hQ : Q .normal a w) : ∀ fuel, wpAny P md ops Q fuel listed a w := by
  have hno : ∀ i, i ∉ Region.ready md ops listed := by
    intro i hm
    obtain ⟨h0, o, ho, _⟩ := mem_ready.1 hm
    have hi := (Array.getElem?_eq_some_iff.1 ho).1
    have := hall i hi
    simp [hs, hi] at this h0
    rw [this] at h0
    cases h0
  intro fuel
  cases fuel with
  | zero => exact ⟨List.eq_nil_iff_forall_not_mem.2 hno, hQ⟩
  | succ fuel => exact ⟨fun _ => hQ, fun i hi => absurd hi (hno i)⟩

/-- What the last operation's step is to show. -/
def LastL (P : Program) (ops : Array Oper) (Q : Exit → Act → World → Prop) (ds : List (Option Tmp)) (V : Nat → (Nat → Value) → World → Prop) (R : World → Prop) (a0 : Act) (L : Nat) : Prop :=
  ∀ o, ops[L]? = some o → ∀ (v : Nat → Value) (w : World), R w → (∀ i, i < L → V i v w) → ∀ K : Act → World → Prop, Shut (∀ x w', Q .normal (fillR ds (setV v L x) 0 a0) w' → K ((fillR ds v 0 a0).put o.dst x) w') →
      if Region.wanted o (yielded ops (fillR ds v 0 a0).tmps) = true then Oper.wp P o (fillR ds v 0 a0) w K Q else K ((fillR ds v 0 a0).put o.dst undef) w
theorem LastL.of {ds : List (Option Tmp)} {V : Nat → (Nat → Value) → World → Prop} {R : World → Prop} {a0 : Act} {L : Nat} {o : Oper} (ho : ops[L]? = some o)
    (h : ∀ (v : Nat → Value) (w : World), R w → (∀ i, i < L → V i v w) → ∀ K : Act → World → Prop, Shut (∀ x w', Q .normal (fillR ds (setV v L x) 0 a0) w' → K ((fillR ds v 0 a0).put o.dst x) w') →
      if Region.wanted o (yielded ops (fillR ds v 0 a0).tmps) = true then Oper.wp P o (fillR ds v 0 a0) w K Q else K ((fillR ds v 0 a0).put o.dst undef) w) : LastL P ops Q ds V R a0 L := by
  intro o' ho'
  rw [ho] at ho'
  cases ho'
  exact h
theorem wanted_plain {o : Oper} (h : o.guard = none) (y) : Region.wanted o y = true := by unfold Region.wanted; rw [h]
theorem LastL.plain {ds : List (Option Tmp)} {V : Nat → (Nat → Value) → World → Prop} {R : World → Prop} {a0 : Act} {L : Nat} (hgd : ∀ o, ops[L]? = some o → o.guard = none)
    (h : ∀ o, ops[L]? = some o → ∀ (v : Nat → Value) (w : World), R w → (∀ i, i < L → V i v w) → ∀ K : Act → World → Prop, Shut (∀ x w', Q .normal (fillR ds (setV v L x) 0 a0) w' → K ((fillR ds v 0 a0).put o.dst x) w') → Oper.wp P o (fillR ds v 0 a0) w K Q) : LastL P ops Q ds V R a0 L := by
  intro o ho v w hR hV K hK
  rw [if_pos (wanted_plain (hgd o ho) _)]
  exact h o ho v w hR hV K hK
theorem wpAny_last (ds : List (Option Tmp)) (hds : ops.toList.map (·.dst) = ds) (hap : apartR ds = true) (hl : lexR ops = true)
    (V : Nat → (Nat → Value) → World → Prop) (R : World → Prop) (Rel : Nat → World → World → Prop) (a0 : Act) (L : Nat) (hL : ops.size = L + 1) (hw : waitsR md ops L (List.range L) = true)
    (hloc : ∀ i v j x w, V i v w → j ≠ i → V i (setV v j x) w)
    (hst : ∀ i k v w w', k ≠ i → V i v w → Rel k w w' → V i v w')
    (hstep : ∀ i, i < L → StepL P md ops Q ds V R Rel a0 i)
    (hlast : LastL P ops Q ds V R a0 L) :
    ∀ (fuel : Nat) (listed : Array Bool) (v : Nat → Value) (w : World), listed.size = ops.size → leftR listed ≤ fuel → listed.getD L true = false → R w → (∀ i, listed.getD i false = true → V i v w) →
      wpAny P md ops Q fuel listed (fillR ds v 0 a0) w := by
  intro fuel
  induction fuel with
  | zero =>
    intro listed v w hs hf h0 hR hV
    have := leftR_set h0
    omega
  | succ fuel ih =>
    intro listed v w hs hf hL0 hR hV
    refine ⟨fun hr => ?_, fun i hi => ?_⟩
    · have := all_listed hl hs hr L (by omega)
      have hLl : L < listed.size := by omega
      simp [hLl] at this hL0
      rw [this] at hL0
      cases hL0
    obtain ⟨h0, o, ho, hall⟩ := mem_ready.1 hi
    have hil := (Array.getElem?_eq_some_iff.1 ho).1
    have hd : ds[i]? = some o.dst := by
      rw [← hds, List.getElem?_map]
      have : ops.toList[i]? = some o := by simpa using ho
      rw [this]
      rfl
    by_cases hiL : i = L
    · subst hiL
      have hothers : ∀ j, j < i → listed.getD j false = true := by
        intro j hj
        have hw' := hw
        unfold waitsR at hw'
        rw [ho] at hw'
        have := List.all_eq_true.1 hw' j (List.mem_range.2 hj)
        obtain ⟨q, hq, he⟩ := Array.any_eq_true.1 this
        simp only [Bool.and_eq_true, beq_iff_eq] at he
        have hl' := hall o.after[q] (Array.getElem_mem _) he.1
        rwa [he.2] at hl'
      refine wpOp_step ho fun K hK => hlast o ho v w hR (fun j hj => hV j (hothers j hj)) K ?_
      intro x w' hQ
      refine hK _ _ ?_
      rw [put_fill ds hap v 0 a0 i o.dst x hd, Nat.zero_add]
      refine wpAny_done _ _ (by simpa using hs) (fun j hj => ?_) hQ fuel
      by_cases hji : j = i
      · subst hji
        exact getD_set_own h0
      · exact getD_set_mono (hothers j (by omega))
    · refine wpOp_step ho fun K hK => hstep i (by omega) o ho v w hR (fun e he hb => hV e.on (hall e he hb)) K ?_
      intro x w' hR' hrel hV'
      refine hK _ _ ?_
      rw [put_fill ds hap v 0 a0 i o.dst x hd, Nat.zero_add]
      refine ih _ _ _ (by simpa using hs) (by have := leftR_set h0; omega) (by rw [getD_set_ne true hiL]; exact hL0) hR' fun j hj => ?_
      by_cases hji : j = i
      · subst hji
        exact hV'
      · have hlj : listed.getD j false = true := by rw [getD_set_ne false (Ne.symm hji)] at hj; exact hj
        exact hloc j v i x w' (hst j i _ _ _ (Ne.symm hji) (hV j hlj) hrel) (Ne.symm hji)

theorem wp_region_last (ds : List (Option Tmp)) (V : Nat → (Nat → Value) → World → Prop) (R : World → Prop) (Rel : Nat → World → World → Prop) (L : Nat) {id : Nat} {a0 : Act} {w : World} (hm : P.follows .mixedOrders = true)
    (hL : ops.size = L + 1) (hds : ops.toList.map (·.dst) = ds) (hap : apartR ds = true) (hl : lexR ops = true) (hw : waitsR .any ops L (List.range L) = true) (hR : R w.drew)
    (hloc : ∀ i v j x w, V i v w → j ≠ i → V i (setV v j x) w)
    (hst : ∀ i k v w w', k ≠ i → V i v w → Rel k w w' → V i v w')
    (hstep : ∀ i, i < L → StepL P .any ops Q ds V R Rel a0 i)
    (hlast : LastL P ops Q ds V R a0 L) : (Code.region id ops true).wp P Q a0 w := by
  refine wp_region_any hm ?_
  have hfill : fillR ds (fun i => match ds[i]? with | some (some t) => a0.tmps.getD t undef | _ => undef) 0 a0 = a0 := by
    refine fill_start a0 ds 0 _ (fun i t ht => ?_)
    simp only [Nat.zero_add, ht]
  have := wpAny_last (P := P) (Q := Q) (md := .any) ds hds hap hl V R Rel a0 L hL hw hloc hst hstep hlast ops.size (Array.replicate ops.size false) (fun i => match ds[i]? with | some (some t) => a0.tmps.getD t undef | _ => undef) w.drew (by simp) ?_ ?_ hR ?_
  · rw [hfill] at this
    exact this
  · unfold leftR
    refine Nat.le_trans List.countP_le_length ?_
    simp
  · simp [hL]
  · intro i hi
    exfalso
    rcases Nat.lt_or_ge i ops.size with h' | h'
    · simp [h'] at hi
    · simp [Nat.not_lt.2 h'] at hi
end
theorem fill_size : ∀ (ds : List (Option Tmp)) (v : Nat → Value) (k : Nat) (a : Act), (fillR ds v k a).tmps.size = a.tmps.size
  | [], _, _, _ => rfl
  | d :: ds, v, k, a => by
    unfold fillR
    rw [fill_size ds v (k + 1)]
    cases d <;> simp [Act.put]
/-- What an operation's slot reads. -/
theorem fill_eval : ∀ (ds : List (Option Tmp)) (v : Nat → Value) (k : Nat) (a : Act) (i : Nat) (d : Tmp), apartR ds = true → ds[i]? = some (some d) → d < a.tmps.size → (fillR ds v k a).eval (.tmp d) = v (k + i)
  | [], _, _, _, _, _, _, h, _ => by simp at h
  | d' :: ds, v, k, a, 0, d, hn, h, hs => by
    simp only [List.getElem?_cons_zero, Option.some.injEq] at h
    subst h
    simp only [apartR, Bool.and_eq_true, Bool.not_eq_true', List.contains_eq_mem, decide_eq_false_iff_not] at hn
    unfold fillR
    rw [← put_through ds v (k + 1) a (some d) (v k) (fun t ht hm => by cases ht; exact hn.1 hm)]
    have := fill_size ds v (k + 1) a
    have h2 : d < (fillR ds v (k + 1) a).tmps.size := by rw [this]; exact hs
    simp [Act.eval, Act.put, h2]
  | d' :: ds, v, k, a, i + 1, d, hn, h, hs => by
    simp only [List.getElem?_cons_succ] at h
    have hn' : apartR ds = true := by
      cases d' with
      | none => exact hn
      | some t => simp only [apartR, Bool.and_eq_true] at hn; exact hn.2
    unfold fillR
    have hs' : d < (a.put d' (v k)).tmps.size := by cases d' <;> simpa [Act.put] using hs
    rw [fill_eval ds v (k + 1) _ i d hn' h hs', Nat.add_assoc, Nat.add_comm 1 i]
/-- What follows a piece of code, under a name. -/
theorem wp_hideQ {P : Program} {c : Code} {Q : Exit → Act → World → Prop} {a : Act} {w : World} (h : ∀ Q', (∀ e a w, Q e a w → Q' e a w) → c.wp P Q' a w) : c.wp P Q a w := h Q (fun _ _ _ h => h)
end Go.Proofs.YtkmkblhmjeeaeaaGreatDoor
end

/-
  Number and Of. No condition.
-/

section
set_option linter.unusedSimpArgs false
set_option linter.unusedVariables false
set_option maxRecDepth 100000
namespace Go.Proofs.YtkmkblhmjeeaeaaGreatDoor
open Go.RowKit

/-- A stat's number. -/
def mnumOf (k m o g : Int) : Int := if chk k m o g = 0 then numS k m o g else 0
set_option maxHeartbeats 1000000 in
theorem mnumber_any (w : World) (k m o g : Int) : Calls Tryz.prog 98 #[stv k m o g] w fun e w' => e = .returned (.int .i64 (mnumOf k m o g)) ∧ Below w.heap.size w w' := by
  have HB := Lib.hid (mnew w (.cells #[.int .i64 k, .int .i64 m, .int .i64 o, .int .i64 g] 39))
  by_cases hc : chk k m o g = 0
  · have e : mnumOf k m o g = numS k m o g := if_pos hc
    rw [e]
    clear e
    obtain ⟨⟨k0, k1⟩, ⟨m0, m1⟩, ⟨o0, o1⟩, g0, g1⟩ := chk_zero hc
    have HC := Lib.hid hc
    clear hc
    go_enter Tryz.func98, Tryz.ntmps98
    go_wp2_with fail
    with_reducible refine (check_ok _ HC.out).mono ?_
    rintro e w1 ⟨rfl, h1⟩
    obtain ⟨e0, e1, e2, e3⟩ := ((Box.new w 39 _ m o g).below h1).cells
    have H1 := Lib.hid (mthen HB.out h1)
    clear h1
    go_wp2_with fail
    go_ret
    exact ⟨ret_num (num_eq HC.out), H1.out⟩
  · have e : mnumOf k m o g = 0 := if_neg hc
    rw [e]
    clear e
    have HC := Lib.hid hc
    clear hc
    go_enter Tryz.func98, Tryz.ntmps98
    go_wp2_with fail
    with_reducible refine (check_bad _ HC.out).mono ?_
    rintro e w1 ⟨z, rfl, hz, h1⟩
    obtain ⟨q1, q2, q3⟩ := eqB_false (show ¬ z = 0 by rw [hz]; exact HC.out)
    have H1 := Lib.hid (mthen HB.out h1)
    clear h1 hz
    go_wp2_with fail
    go_ret
    exact ⟨rfl, H1.out⟩
/-- Is a number a stat's? -/
def numB (n : Int) : Prop := chk (n / 17592186044416) (n / 4294967296 % 4096) (n / 65536 % 65536) (n % 65536) = 0
set_option maxHeartbeats 1000000 in
theorem numOf_yes (w : World) (n : Int) (hn : numB n) : Calls Tryz.prog 103 #[.int .i64 n] w fun e w' => e = .returned (.tuple #[stv (n / 17592186044416) (n / 4294967296 % 4096) (n / 65536 % 65536) (n % 65536), .int .i64 0]) ∧ Below w.heap.size w w' := by
  have m1 := mask12 (n / 4294967296)
  have m2 := mask16 (n / 65536)
  have m3 := mask16 n
  have HC := Lib.hid hn
  have b0 : Below w.heap.size w ((w.alloc (.cells #[.int .i64 0, .int .i64 0, .int .i64 0, .int .i64 0] 39)).alloc (.cells #[.int .i64 (n / 17592186044416), .int .i64 (n / 4294967296 % 4096), .int .i64 (n / 65536 % 65536), .int .i64 (n % 65536)] 39)) := ((Below.refl _ _).alloc (Nat.le_refl _) _).alloc (by simp) _
  have X0 := (Box.new w 39 0 0 0 0).below (mnew _ (.cells #[.int .i64 (n / 17592186044416), .int .i64 (n / 4294967296 % 4096), .int .i64 (n / 65536 % 65536), .int .i64 (n % 65536)] 39))
  have Y0 := Box.new (w.alloc (.cells #[.int .i64 0, .int .i64 0, .int .i64 0, .int .i64 0] 39)) 39 (n / 17592186044416) (n / 4294967296 % 4096) (n / 65536 % 65536) (n % 65536)
  rw [World.size_alloc] at Y0
  have H0 := Lib.hid (And.intro b0 (And.intro X0 Y0))
  clear hn b0 X0 Y0
  go_enter Tryz.func103, Tryz.ntmps103
  go_wp2_with fail
  refine (check_ok _ HC.out).mono ?_
  rintro e w1 ⟨rfl, h1⟩
  obtain ⟨e0, e1, e2, e3⟩ := (H0.out.2.1.below h1).cells
  obtain ⟨f0, f1, f2, f3⟩ := (H0.out.2.1.below h1).free
  obtain ⟨g0, g1, g2, g3⟩ := (H0.out.2.2.below h1).cells
  have H1 := Lib.hid (mthen H0.out.1 h1)
  clear h1
  go_wp2_with fail
  refine bodyPost_ret (v := .tuple #[stv (n / 17592186044416) (n / 4294967296 % 4096) (n / 65536 % 65536) (n % 65536), .int .i64 0]) (by simp [results, Tryz.results103, go_sem, e0, e1, e2, e3]) rfl ⟨rfl, ?_⟩
  exact (((H1.out.setCell (Nat.le_refl _) _).setCell (Nat.le_refl _) _).setCell (Nat.le_refl _) _).setCell (Nat.le_refl _) _
set_option maxHeartbeats 1000000 in
theorem numOf_no (w : World) (n : Int) (hn : ¬ numB n) : Calls Tryz.prog 103 #[.int .i64 n] w fun e w' => e = .returned (.tuple #[stv 0 0 0 0, .int .i64 3]) ∧ Below w.heap.size w w' := by
  have m1 := mask12 (n / 4294967296)
  have m2 := mask16 (n / 65536)
  have m3 := mask16 n
  have HC : Hid (chk (n / 17592186044416) (n / 4294967296 % 4096) (n / 65536 % 65536) (n % 65536) ≠ 0) := Lib.hid hn
  have b0 : Below w.heap.size w ((w.alloc (.cells #[.int .i64 0, .int .i64 0, .int .i64 0, .int .i64 0] 39)).alloc (.cells #[.int .i64 (n / 17592186044416), .int .i64 (n / 4294967296 % 4096), .int .i64 (n / 65536 % 65536), .int .i64 (n % 65536)] 39)) := ((Below.refl _ _).alloc (Nat.le_refl _) _).alloc (by simp) _
  have X0 := (Box.new w 39 0 0 0 0).below (mnew _ (.cells #[.int .i64 (n / 17592186044416), .int .i64 (n / 4294967296 % 4096), .int .i64 (n / 65536 % 65536), .int .i64 (n % 65536)] 39))
  have H0 := Lib.hid (And.intro b0 X0)
  clear hn b0 X0
  go_enter Tryz.func103, Tryz.ntmps103
  go_wp2_with fail
  refine (check_bad _ HC.out).mono ?_
  rintro e w1 ⟨z, rfl, hz, h1⟩
  obtain ⟨q1, q2, q3⟩ := eqB_false (show ¬ z = 0 by rw [hz]; exact HC.out)
  obtain ⟨e0, e1, e2, e3⟩ := (H0.out.2.below h1).cells
  obtain ⟨f0, f1, f2, f3⟩ := (H0.out.2.below h1).free
  have H1 := Lib.hid (mthen H0.out.1 h1)
  clear h1 hz
  go_wp2_with fail
  refine bodyPost_ret (v := .tuple #[stv 0 0 0 0, .int .i64 3]) (by simp [results, Tryz.results103, go_sem, e0, e1, e2, e3]) rfl ⟨rfl, ?_⟩
  exact (((H1.out.setCell (Nat.le_refl _) _).setCell (Nat.le_refl _) _).setCell (Nat.le_refl _) _).setCell (Nat.le_refl _) _
end Go.Proofs.YtkmkblhmjeeaeaaGreatDoor
end

/-
  Drawn regions whose operations wait for later ones only on grounds that don't bind. Plain theorems on the rules; no condition.
-/

section
set_option maxRecDepth 100000
set_option linter.unusedSimpArgs false
set_option linter.unusedVariables false
namespace Go.Proofs.YtkmkblhmjeeaeaaGreatDoor


/-- Each operation waits for earlier ones alone, on the grounds that bind. -/
def lexA (md : Region.Mode) (ops : Array Oper) : Bool := (List.range ops.size).all fun i => match ops[i]? with | some o => o.after.all fun e => !(Region.binds md e) || decide (e.on < i) | none => true

section
variable {P : Program} {ops : Array Oper} {Q : Exit → Act → World → Prop} {md : Region.Mode}

theorem all_listedA (hl : lexA md ops = true) {listed : Array Bool} (hs : listed.size = ops.size) (hr : Region.ready md ops listed = []) : ∀ i, i < ops.size → listed.getD i false = true := by
  intro i
  induction i using Nat.strongRecOn with
  | ind i ih =>
    intro hi
    cases hb : listed.getD i false with
    | true => rfl
    | false =>
      exfalso
      have hm : i ∈ Region.ready md ops listed := by
        rw [mem_ready]
        refine ⟨by simpa [hs, hi] using hb, ops[i], by simp [hi], fun e he hbd => ?_⟩
        have := List.all_eq_true.1 hl i (List.mem_range.2 hi)
        rw [Array.getElem?_eq_getElem hi] at this
        simp only [Array.all_eq_true_iff_forall_mem] at this
        have hlt : e.on < i := by
          have h1 := this e he
          simp only [Bool.or_eq_true, Bool.not_eq_true', decide_eq_true_eq] at h1
          rcases h1 with h1 | h1
          · rw [hbd] at h1; cases h1
          · exact h1
        exact ih e.on hlt (by omega)
      rw [hr] at hm
      cases hm

theorem wpAny_lookA (ds : List (Option Tmp)) (hds : ops.toList.map (·.dst) = ds) (hap : apartR ds = true) (hl : lexA md ops = true)
    (V : Nat → (Nat → Value) → World → Prop) (look : Nat → List Nat) (R : World → Prop) (Rel : Nat → World → World → Prop) (a0 : Act)
    (hloc : ∀ i v j x w, V i v w → j ≠ i → j ∉ look i → V i (setV v j x) w)
    (hlook : ∀ i, i < ops.size → waitsR md ops i (look i) = true)
    (hst : ∀ i k v w w', k ≠ i → V i v w → Rel k w w' → V i v w')
    (hstep : ∀ i, i < ops.size → StepL P md ops Q ds V R Rel a0 i)
    (hfin : ∀ (v : Nat → Value) (w : World), R w → (∀ i, i < ops.size → V i v w) → Q .normal (fillR ds v 0 a0) w) :
    ∀ (fuel : Nat) (listed : Array Bool) (v : Nat → Value) (w : World), listed.size = ops.size → leftR listed ≤ fuel → R w → (∀ i, listed.getD i false = true → V i v w ∧ ∀ j ∈ look i, listed.getD j false = true) →
      wpAny P md ops Q fuel listed (fillR ds v 0 a0) w := by
  intro fuel
  induction fuel with
  | zero =>
    intro listed v w hs hf hR hV
    have hall : ∀ i, i < ops.size → listed.getD i false = true := by
      intro i hi
      cases hb : listed.getD i false with
      | true => rfl
      | false =>
        have h' : listed.getD i true = false := by simpa [hs, hi] using hb
        have := leftR_set h'
        omega
    refine ⟨?_, hfin v w hR (fun i hi => (hV i (hall i hi)).1)⟩
    cases hr : Region.ready md ops listed with
    | nil => rfl
    | cons i rs =>
      have hm : i ∈ Region.ready md ops listed := by rw [hr]; simp
      obtain ⟨h0, o, ho, _⟩ := mem_ready.1 hm
      have hi := (Array.getElem?_eq_some_iff.1 ho).1
      have := hall i hi
      simp [hs, hi] at this h0
      rw [this] at h0
      cases h0
  | succ fuel ih =>
    intro listed v w hs hf hR hV
    refine ⟨fun hr => hfin v w hR (fun i hi => (hV i (all_listedA hl hs hr i hi)).1), fun i hi => ?_⟩
    obtain ⟨h0, o, ho, hall⟩ := mem_ready.1 hi
    have hil := (Array.getElem?_eq_some_iff.1 ho).1
    refine wpOp_step ho fun K hK => hstep i hil o ho v w hR (fun e he hb => (hV e.on (hall e he hb)).1) K ?_
    intro x w' hR' hrel hV'
    refine hK _ _ ?_
    have hd : ds[i]? = some o.dst := by
      rw [← hds, List.getElem?_map]
      have : ops.toList[i]? = some o := by simpa using ho
      rw [this]
      rfl
    rw [put_fill ds hap v 0 a0 i o.dst x hd, Nat.zero_add]
    refine ih _ _ _ (by simpa using hs) (by have := leftR_set h0; omega) hR' fun j hj => ?_
    by_cases hji : j = i
    · subst hji
      refine ⟨hV', fun k hk => ?_⟩
      have hw := hlook j hil
      unfold waitsR at hw
      rw [ho] at hw
      have := List.all_eq_true.1 hw k hk
      obtain ⟨q, hq, he⟩ := Array.any_eq_true.1 this
      simp only [Bool.and_eq_true, beq_iff_eq] at he
      have hl' := hall o.after[q] (Array.getElem_mem _) he.1
      rw [he.2] at hl'
      exact getD_set_mono hl'
    · have hlj : listed.getD j false = true := by rw [getD_set_ne false (Ne.symm hji)] at hj; exact hj
      obtain ⟨hvj, hlk⟩ := hV j hlj
      refine ⟨hloc j v i x w' (hst j i _ _ _ (Ne.symm hji) hvj hrel) (Ne.symm hji) (fun hi' => ?_), fun k hk => getD_set_mono (hlk k hk)⟩
      have h1 := hlk i hi'
      have hil' : i < listed.size := by omega
      simp [hil'] at h0 h1
      rw [h1] at h0
      cases h0

theorem wp_region_lookA (ds : List (Option Tmp)) (V : Nat → (Nat → Value) → World → Prop) (look : Nat → List Nat) (R : World → Prop) (Rel : Nat → World → World → Prop) (n : Nat) {id : Nat} {a0 : Act} {w : World} (hm : P.follows .mixedOrders = true)
    (hn : ops.size = n) (hds : ops.toList.map (·.dst) = ds) (hap : apartR ds = true) (hl : lexA .any ops = true) (hR : R w.drew)
    (hloc : ∀ i v j x w, V i v w → j ≠ i → j ∉ look i → V i (setV v j x) w)
    (hlook : ∀ i, i < n → waitsR .any ops i (look i) = true)
    (hst : ∀ i k v w w', k ≠ i → V i v w → Rel k w w' → V i v w')
    (hstep : ∀ i, i < n → StepL P .any ops Q ds V R Rel a0 i)
    (hfin : ∀ (v : Nat → Value) (w : World), R w → (∀ i, i < n → V i v w) → Q .normal (fillR ds v 0 a0) w) : (Code.region id ops true).wp P Q a0 w := by
  subst hn
  refine wp_region_any hm ?_
  have hfill : fillR ds (fun i => match ds[i]? with | some (some t) => a0.tmps.getD t undef | _ => undef) 0 a0 = a0 := by
    refine fill_start a0 ds 0 _ (fun i t ht => ?_)
    simp only [Nat.zero_add, ht]
  have := wpAny_lookA (P := P) (Q := Q) (md := .any) ds hds hap hl V look R Rel a0 hloc hlook hst hstep hfin ops.size (Array.replicate ops.size false) (fun i => match ds[i]? with | some (some t) => a0.tmps.getD t undef | _ => undef) w.drew (by simp) ?_ hR ?_
  · rw [hfill] at this
    exact this
  · unfold leftR
    refine Nat.le_trans List.countP_le_length ?_
    simp
  · intro i hi
    exfalso
    rcases Nat.lt_or_ge i ops.size with h' | h'
    · simp [h'] at hi
    · simp [Nat.not_lt.2 h'] at hi

end
end Go.Proofs.YtkmkblhmjeeaeaaGreatDoor
end
