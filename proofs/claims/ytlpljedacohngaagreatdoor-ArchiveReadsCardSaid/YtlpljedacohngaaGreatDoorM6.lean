/-
  Of and Hex. Conditions: the texts are known; the constants lie in their variable; at most 2^49 bytes in all.
-/
import Derived.Test.YtlpljedacohngaaGreatDoorM5
import Derived.Laws.IdiomStrings
import Derived.Lib.SlBytesConst
import Derived.Stop.BytesEq
import Derived.Laws.AppendOwnNone
import Derived.OwnWalk
import Derived.Test.YtlpljedacohngaaGreatDoorM4
import Derived.Test.YtlpljedacohngaaGreatDoorCards
import Derived.Test.YtlpljedacohngaaGreatDoorTie
import Derived.WalkKit
import Derived.ProofKit
import Derived.Lib.LaidTab
import Derived.Test.YtlpljedacohngaaGreatDoorM1
import Derived.Lib.Hide
section
set_option maxRecDepth 100000
set_option linter.unusedSimpArgs false
set_option linter.unusedVariables false
namespace Go.Proofs.YtlpljedacohngaaGreatDoor
open Go.RowKit

theorem Txt.at {w : World} {p q : Nat} {A : Option Addr} {n c : Nat} {bs : List B8} (h : Txt w p A n c bs) (hq : w.heap.size ≤ q) : Txt w q A n c bs := by
  refine ⟨h.len, h.cap, h.capm, fun hn => ?_⟩
  obtain ⟨g, o, hA, hg, hc⟩ := h.cells hn
  have : g < w.heap.size := World.block_lt_of_cell? w _ (hc 0 hn)
  exact ⟨g, o, hA, by omega, hc⟩
theorem Txts.at {w : World} {p q : Nat} {L : Option Addr} {n : Nat} {xs : List (List B8)} (h : Txts w p L n xs) (hq : w.heap.size ≤ q) : Txts w q L n xs := by
  refine ⟨h.len, fun hn => ?_⟩
  obtain ⟨g, o, hL, hg, hc⟩ := h.cells hn
  obtain ⟨A, k, c, h0, ht⟩ := hc 0 (xs[0]'(by have := h.len; omega)) (List.getElem?_eq_getElem _)
  have : g < w.heap.size := World.block_lt_of_cell? w _ h0
  exact ⟨g, o, hL, by omega, fun i x hx => by
    obtain ⟨A, k, c, h0, ht⟩ := hc i x hx
    exact ⟨A, k, c, h0, ht.at hq⟩⟩

/-- Bytes as a string. -/
def strOf (l : List B8) : Value := .string ⟨(l.map UInt8.ofBitVec).toArray⟩

theorem agg_index (d : List B8) (hd : d.length = 32) (k : Nat) (hk : k < 32) (W : World) : (Instr.index 74 (.agg (Vb d).toArray) (.int .i64 k)).run Tryz.prog W = .ok (.int .u8 (nb (d.getD k 0))) W := by
  have hs : (sizeOf 5).run Tryz.prog W = .ok 1 W := by kernel_rfl
  obtain ⟨x, hx⟩ : ∃ x, d[k]? = some x := ⟨_, List.getElem?_eq_getElem (by omega)⟩
  have hv : (Vb d)[k]? = some (.int .u8 (nb x)) := by rw [Vb_get, hx]; rfl
  rw [List.getD_eq_getElem?_getD, hx]
  simp [Instr.index, asIntOf, run_underlying Tryz.underlying74, Go.part, hs, hv, hk]

theorem sign_index (i : Nat) (hi : i < 16) (W : World) : (Instr.index 9 (.string ⟨#[48, 49, 50, 51, 52, 53, 54, 55, 56, 57, 97, 98, 99, 100, 101, 102]⟩) (.int .u8 i)).run Tryz.prog W = .ok (.int .u8 (nb (sign i))) W := by
  match i, hi with
  | 0, _ =>
    have h : (Instr.index 9 (.string ⟨#[48, 49, 50, 51, 52, 53, 54, 55, 56, 57, 97, 98, 99, 100, 101, 102]⟩) (.int .u8 ((0 : Nat) : Int))).run Tryz.prog W = .ok (.int .u8 (nb (sign 0))) W := by kernel_rfl
    exact h
  | 1, _ =>
    have h : (Instr.index 9 (.string ⟨#[48, 49, 50, 51, 52, 53, 54, 55, 56, 57, 97, 98, 99, 100, 101, 102]⟩) (.int .u8 ((1 : Nat) : Int))).run Tryz.prog W = .ok (.int .u8 (nb (sign 1))) W := by kernel_rfl
    exact h
  | 2, _ =>
    have h : (Instr.index 9 (.string ⟨#[48, 49, 50, 51, 52, 53, 54, 55, 56, 57, 97, 98, 99, 100, 101, 102]⟩) (.int .u8 ((2 : Nat) : Int))).run Tryz.prog W = .ok (.int .u8 (nb (sign 2))) W := by kernel_rfl
    exact h
  | 3, _ =>
    have h : (Instr.index 9 (.string ⟨#[48, 49, 50, 51, 52, 53, 54, 55, 56, 57, 97, 98, 99, 100, 101, 102]⟩) (.int .u8 ((3 : Nat) : Int))).run Tryz.prog W = .ok (.int .u8 (nb (sign 3))) W := by kernel_rfl
    exact h
  | 4, _ =>
    have h : (Instr.index 9 (.string ⟨#[48, 49, 50, 51, 52, 53, 54, 55, 56, 57, 97, 98, 99, 100, 101, 102]⟩) (.int .u8 ((4 : Nat) : Int))).run Tryz.prog W = .ok (.int .u8 (nb (sign 4))) W := by kernel_rfl
    exact h
  | 5, _ =>
    have h : (Instr.index 9 (.string ⟨#[48, 49, 50, 51, 52, 53, 54, 55, 56, 57, 97, 98, 99, 100, 101, 102]⟩) (.int .u8 ((5 : Nat) : Int))).run Tryz.prog W = .ok (.int .u8 (nb (sign 5))) W := by kernel_rfl
    exact h
  | 6, _ =>
    have h : (Instr.index 9 (.string ⟨#[48, 49, 50, 51, 52, 53, 54, 55, 56, 57, 97, 98, 99, 100, 101, 102]⟩) (.int .u8 ((6 : Nat) : Int))).run Tryz.prog W = .ok (.int .u8 (nb (sign 6))) W := by kernel_rfl
    exact h
  | 7, _ =>
    have h : (Instr.index 9 (.string ⟨#[48, 49, 50, 51, 52, 53, 54, 55, 56, 57, 97, 98, 99, 100, 101, 102]⟩) (.int .u8 ((7 : Nat) : Int))).run Tryz.prog W = .ok (.int .u8 (nb (sign 7))) W := by kernel_rfl
    exact h
  | 8, _ =>
    have h : (Instr.index 9 (.string ⟨#[48, 49, 50, 51, 52, 53, 54, 55, 56, 57, 97, 98, 99, 100, 101, 102]⟩) (.int .u8 ((8 : Nat) : Int))).run Tryz.prog W = .ok (.int .u8 (nb (sign 8))) W := by kernel_rfl
    exact h
  | 9, _ =>
    have h : (Instr.index 9 (.string ⟨#[48, 49, 50, 51, 52, 53, 54, 55, 56, 57, 97, 98, 99, 100, 101, 102]⟩) (.int .u8 ((9 : Nat) : Int))).run Tryz.prog W = .ok (.int .u8 (nb (sign 9))) W := by kernel_rfl
    exact h
  | 10, _ =>
    have h : (Instr.index 9 (.string ⟨#[48, 49, 50, 51, 52, 53, 54, 55, 56, 57, 97, 98, 99, 100, 101, 102]⟩) (.int .u8 ((10 : Nat) : Int))).run Tryz.prog W = .ok (.int .u8 (nb (sign 10))) W := by kernel_rfl
    exact h
  | 11, _ =>
    have h : (Instr.index 9 (.string ⟨#[48, 49, 50, 51, 52, 53, 54, 55, 56, 57, 97, 98, 99, 100, 101, 102]⟩) (.int .u8 ((11 : Nat) : Int))).run Tryz.prog W = .ok (.int .u8 (nb (sign 11))) W := by kernel_rfl
    exact h
  | 12, _ =>
    have h : (Instr.index 9 (.string ⟨#[48, 49, 50, 51, 52, 53, 54, 55, 56, 57, 97, 98, 99, 100, 101, 102]⟩) (.int .u8 ((12 : Nat) : Int))).run Tryz.prog W = .ok (.int .u8 (nb (sign 12))) W := by kernel_rfl
    exact h
  | 13, _ =>
    have h : (Instr.index 9 (.string ⟨#[48, 49, 50, 51, 52, 53, 54, 55, 56, 57, 97, 98, 99, 100, 101, 102]⟩) (.int .u8 ((13 : Nat) : Int))).run Tryz.prog W = .ok (.int .u8 (nb (sign 13))) W := by kernel_rfl
    exact h
  | 14, _ =>
    have h : (Instr.index 9 (.string ⟨#[48, 49, 50, 51, 52, 53, 54, 55, 56, 57, 97, 98, 99, 100, 101, 102]⟩) (.int .u8 ((14 : Nat) : Int))).run Tryz.prog W = .ok (.int .u8 (nb (sign 14))) W := by kernel_rfl
    exact h
  | 15, _ =>
    have h : (Instr.index 9 (.string ⟨#[48, 49, 50, 51, 52, 53, 54, 55, 56, 57, 97, 98, 99, 100, 101, 102]⟩) (.int .u8 ((15 : Nat) : Int))).run Tryz.prog W = .ok (.int .u8 (nb (sign 15))) W := by kernel_rfl
    exact h
  | k + 16, h => exact absurd h (by omega)

theorem and15 (x : B8) : bits .and .u8 (nb x) 15 = ((x.toNat % 16 : Nat) : Int) := by
  have h : ∀ y : B8, bits .and .u8 (nb y) 15 = ((y.toNat % 16 : Nat) : Int) := by decide +kernel
  exact h x
theorem div16 (x : B8) : nb x / 16 = ((x.toNat / 16 : Nat) : Int) := by
  unfold nb
  omega

theorem sign_nat (i : Nat) (hi : i < 16) (h : i < (⟨#[48, 49, 50, 51, 52, 53, 54, 55, 56, 57, 97, 98, 99, 100, 101, 102]⟩ : ByteArray).size) : (((⟨#[48, 49, 50, 51, 52, 53, 54, 55, 56, 57, 97, 98, 99, 100, 101, 102]⟩ : ByteArray)[i]'h).toNat : Int) = nb (sign i) := by
  match i, hi, h with
  | 0, _, h =>
    have e : (((⟨#[48, 49, 50, 51, 52, 53, 54, 55, 56, 57, 97, 98, 99, 100, 101, 102]⟩ : ByteArray)[0]'h).toNat : Int) = nb (sign 0) := by kernel_rfl
    exact e
  | 1, _, h =>
    have e : (((⟨#[48, 49, 50, 51, 52, 53, 54, 55, 56, 57, 97, 98, 99, 100, 101, 102]⟩ : ByteArray)[1]'h).toNat : Int) = nb (sign 1) := by kernel_rfl
    exact e
  | 2, _, h =>
    have e : (((⟨#[48, 49, 50, 51, 52, 53, 54, 55, 56, 57, 97, 98, 99, 100, 101, 102]⟩ : ByteArray)[2]'h).toNat : Int) = nb (sign 2) := by kernel_rfl
    exact e
  | 3, _, h =>
    have e : (((⟨#[48, 49, 50, 51, 52, 53, 54, 55, 56, 57, 97, 98, 99, 100, 101, 102]⟩ : ByteArray)[3]'h).toNat : Int) = nb (sign 3) := by kernel_rfl
    exact e
  | 4, _, h =>
    have e : (((⟨#[48, 49, 50, 51, 52, 53, 54, 55, 56, 57, 97, 98, 99, 100, 101, 102]⟩ : ByteArray)[4]'h).toNat : Int) = nb (sign 4) := by kernel_rfl
    exact e
  | 5, _, h =>
    have e : (((⟨#[48, 49, 50, 51, 52, 53, 54, 55, 56, 57, 97, 98, 99, 100, 101, 102]⟩ : ByteArray)[5]'h).toNat : Int) = nb (sign 5) := by kernel_rfl
    exact e
  | 6, _, h =>
    have e : (((⟨#[48, 49, 50, 51, 52, 53, 54, 55, 56, 57, 97, 98, 99, 100, 101, 102]⟩ : ByteArray)[6]'h).toNat : Int) = nb (sign 6) := by kernel_rfl
    exact e
  | 7, _, h =>
    have e : (((⟨#[48, 49, 50, 51, 52, 53, 54, 55, 56, 57, 97, 98, 99, 100, 101, 102]⟩ : ByteArray)[7]'h).toNat : Int) = nb (sign 7) := by kernel_rfl
    exact e
  | 8, _, h =>
    have e : (((⟨#[48, 49, 50, 51, 52, 53, 54, 55, 56, 57, 97, 98, 99, 100, 101, 102]⟩ : ByteArray)[8]'h).toNat : Int) = nb (sign 8) := by kernel_rfl
    exact e
  | 9, _, h =>
    have e : (((⟨#[48, 49, 50, 51, 52, 53, 54, 55, 56, 57, 97, 98, 99, 100, 101, 102]⟩ : ByteArray)[9]'h).toNat : Int) = nb (sign 9) := by kernel_rfl
    exact e
  | 10, _, h =>
    have e : (((⟨#[48, 49, 50, 51, 52, 53, 54, 55, 56, 57, 97, 98, 99, 100, 101, 102]⟩ : ByteArray)[10]'h).toNat : Int) = nb (sign 10) := by kernel_rfl
    exact e
  | 11, _, h =>
    have e : (((⟨#[48, 49, 50, 51, 52, 53, 54, 55, 56, 57, 97, 98, 99, 100, 101, 102]⟩ : ByteArray)[11]'h).toNat : Int) = nb (sign 11) := by kernel_rfl
    exact e
  | 12, _, h =>
    have e : (((⟨#[48, 49, 50, 51, 52, 53, 54, 55, 56, 57, 97, 98, 99, 100, 101, 102]⟩ : ByteArray)[12]'h).toNat : Int) = nb (sign 12) := by kernel_rfl
    exact e
  | 13, _, h =>
    have e : (((⟨#[48, 49, 50, 51, 52, 53, 54, 55, 56, 57, 97, 98, 99, 100, 101, 102]⟩ : ByteArray)[13]'h).toNat : Int) = nb (sign 13) := by kernel_rfl
    exact e
  | 14, _, h =>
    have e : (((⟨#[48, 49, 50, 51, 52, 53, 54, 55, 56, 57, 97, 98, 99, 100, 101, 102]⟩ : ByteArray)[14]'h).toNat : Int) = nb (sign 14) := by kernel_rfl
    exact e
  | 15, _, h =>
    have e : (((⟨#[48, 49, 50, 51, 52, 53, 54, 55, 56, 57, 97, 98, 99, 100, 101, 102]⟩ : ByteArray)[15]'h).toNat : Int) = nb (sign 15) := by kernel_rfl
    exact e
  | i + 16, h, _ => exact absurd h (by omega)
theorem sign_at (x : Int) (i : Nat) (hx : x = (i : Int)) (hi : i < 16) (h : x.toNat < (⟨#[48, 49, 50, 51, 52, 53, 54, 55, 56, 57, 97, 98, 99, 100, 101, 102]⟩ : ByteArray).size) : (((⟨#[48, 49, 50, 51, 52, 53, 54, 55, 56, 57, 97, 98, 99, 100, 101, 102]⟩ : ByteArray)[x.toNat]'h).toNat : Int) = nb (sign i) := by
  subst hx
  exact sign_nat i hi h
/-- Bytes, and behind them the rest of N, still nought. -/
def partN (N : Nat) (l : List B8) : List Value := Vb l ++ List.replicate (N - l.length) (.int .u8 0)
theorem partN_length {N : Nat} {l : List B8} (h : l.length ≤ N) : (partN N l).length = N := by simp [partN, Vb_length]; omega
theorem partN_set {N : Nat} {l : List B8} (h : l.length < N) (x : B8) : (partN N l).set l.length (.int .u8 (nb x)) = partN N (l ++ [x]) := by
  unfold partN
  rw [List.set_append_right _ _ (by rw [Vb_length]; omega), Vb_length, Nat.sub_self, Vb_append]
  obtain ⟨m, hm⟩ : ∃ m, N - l.length = m + 1 := ⟨N - l.length - 1, by omega⟩
  rw [hm, List.replicate_succ, List.set_cons_zero, List.append_assoc]
  have : N - (l ++ [x]).length = m := by simp; omega
  rw [this]
  rfl
theorem partN_next {N : Nat} {l : List B8} {j : Nat} (h : l.length + j < N) : (partN N l)[l.length + j]? = some (.int .u8 0) := by
  unfold partN
  rw [List.getElem?_append_right (by rw [Vb_length]; omega), Vb_length, Nat.add_sub_cancel_left, List.getElem?_replicate]
  rw [if_pos (by omega)]
theorem partN_whole {N : Nat} (l : List B8) (h : l.length = N) : partN N l = Vb l := by simp [partN, h]

end Go.Proofs.YtlpljedacohngaaGreatDoor
end

/-
  The law's own 'known': the document's two examples hold. Condition: the constants lie in their variable.
-/

section
set_option maxRecDepth 100000
set_option linter.unusedSimpArgs false
set_option linter.unusedVariables false
namespace Go.Proofs.YtlpljedacohngaaGreatDoor
open Go.RowKit

theorem strA0 : strOf textA = .string ⟨#[101, 51, 98, 48, 99, 52, 52, 50, 57, 56, 102, 99, 49, 99, 49, 52, 57, 97, 102, 98, 102, 52, 99, 56, 57, 57, 54, 102, 98, 57, 50, 52, 50, 55, 97, 101, 52, 49, 101, 52, 54, 52, 57, 98, 57, 51, 52, 99, 97, 52, 57, 53, 57, 57, 49, 98, 55, 56, 53, 50, 98, 56, 53, 53]⟩ := by kernel_rfl
theorem strB0 : strOf textB = .string ⟨#[98, 97, 55, 56, 49, 54, 98, 102, 56, 102, 48, 49, 99, 102, 101, 97, 52, 49, 52, 49, 52, 48, 100, 101, 53, 100, 97, 101, 50, 50, 50, 51, 98, 48, 48, 51, 54, 49, 97, 51, 57, 54, 49, 55, 55, 97, 57, 99, 98, 52, 49, 48, 102, 102, 54, 49, 102, 50, 48, 48, 49, 53, 97, 100]⟩ := by kernel_rfl
theorem strA : strOf (hexS (sha Ks []) 32) = .string ⟨#[101, 51, 98, 48, 99, 52, 52, 50, 57, 56, 102, 99, 49, 99, 49, 52, 57, 97, 102, 98, 102, 52, 99, 56, 57, 57, 54, 102, 98, 57, 50, 52, 50, 55, 97, 101, 52, 49, 101, 52, 54, 52, 57, 98, 57, 51, 52, 99, 97, 52, 57, 53, 57, 57, 49, 98, 55, 56, 53, 50, 98, 56, 53, 53]⟩ := by
  rw [known_none]
  exact strA0
theorem strB : strOf (hexS (sha Ks [97#8, 98#8, 99#8]) 32) = .string ⟨#[98, 97, 55, 56, 49, 54, 98, 102, 56, 102, 48, 49, 99, 102, 101, 97, 52, 49, 52, 49, 52, 48, 100, 101, 53, 100, 97, 101, 50, 50, 50, 51, 98, 48, 48, 51, 54, 49, 97, 51, 57, 54, 49, 55, 55, 97, 57, 99, 98, 52, 49, 48, 102, 102, 54, 49, 102, 50, 48, 48, 49, 53, 97, 100]⟩ := by
  have h : hexS (sha Ks [97#8, 98#8, 99#8]) 32 = textB := known_abc
  rw [h]
  exact strB0

theorem Vb_cells (xs : List B8) : Vb xs = (xs.map UInt8.ofBitVec).map Extern.Stop.cell := by
  unfold Vb
  rw [List.map_map]
  apply List.map_congr_left
  intro x _
  unfold nb
  rfl
/-- '==' of two digests. -/
theorem eql32 (xs ys : List B8) (hx : xs.length = 32) (hy : ys.length = 32) (W : World) : (Op.equalIn 10000 74 (.agg (Vb xs).toArray) (.agg (Vb ys).toArray)).run Tryz.prog W = .ok (decide (xs = ys)) W := by
  rw [Vb_cells, Vb_cells, run_equalIn_bytes W 9998 74 5 32 Tryz.underlying74 Tryz.underlying5 (fun w => by kernel_rfl) _ _ (by simpa using hx) (by simpa using hy)]
  congr 1
  rw [Bool.eq_iff_iff, beq_iff_eq, decide_eq_true_eq]
  exact List.map_inj_right (fun a b h => by injection h)

theorem abc_txts (w : World) (p : Nat) (hp : w.heap.size + 3 ≤ p) :
    Txts (((w.alloc (.cells #[.int .u8 97] 5 (1, 2))).alloc (.cells #[.int .u8 98, .int .u8 99] 5 (2, 3))).alloc (.cells #[.slice (some ⟨w.heap.size, 0, none⟩) 1 1, .slice (some ⟨w.heap.size + 1, 0, none⟩) 2 2] 22)) p (some ⟨w.heap.size + 2, 0, none⟩) 2 [[97], [98, 99]] := by
  have b0 : (((w.alloc (.cells #[.int .u8 97] 5 (1, 2))).alloc (.cells #[.int .u8 98, .int .u8 99] 5 (2, 3))).alloc (.cells #[.slice (some ⟨w.heap.size, 0, none⟩) 1 1, .slice (some ⟨w.heap.size + 1, 0, none⟩) 2 2] 22)).heap[w.heap.size]? = some (.cells #[.int .u8 97] 5 (1, 2)) :=
    (Below.heap_alloc _ _ _ (by simp; omega)).trans ((Below.heap_alloc _ _ _ (by simp)).trans (heap_alloc_new w _))
  have b1 : (((w.alloc (.cells #[.int .u8 97] 5 (1, 2))).alloc (.cells #[.int .u8 98, .int .u8 99] 5 (2, 3))).alloc (.cells #[.slice (some ⟨w.heap.size, 0, none⟩) 1 1, .slice (some ⟨w.heap.size + 1, 0, none⟩) 2 2] 22)).heap[w.heap.size + 1]? = some (.cells #[.int .u8 98, .int .u8 99] 5 (2, 3)) := by
    refine (Below.heap_alloc _ _ _ (by simp)).trans ?_
    have h := heap_alloc_new (w.alloc (.cells #[.int .u8 97] 5 (1, 2))) (.cells #[.int .u8 98, .int .u8 99] 5 (2, 3))
    rw [World.size_alloc] at h
    exact h
  have b2 : (((w.alloc (.cells #[.int .u8 97] 5 (1, 2))).alloc (.cells #[.int .u8 98, .int .u8 99] 5 (2, 3))).alloc (.cells #[.slice (some ⟨w.heap.size, 0, none⟩) 1 1, .slice (some ⟨w.heap.size + 1, 0, none⟩) 2 2] 22)).heap[w.heap.size + 2]? = some (.cells #[.slice (some ⟨w.heap.size, 0, none⟩) 1 1, .slice (some ⟨w.heap.size + 1, 0, none⟩) 2 2] 22 (0, 0)) := by
    have h := heap_alloc_new ((w.alloc (.cells #[.int .u8 97] 5 (1, 2))).alloc (.cells #[.int .u8 98, .int .u8 99] 5 (2, 3))) (.cells #[.slice (some ⟨w.heap.size, 0, none⟩) 1 1, .slice (some ⟨w.heap.size + 1, 0, none⟩) 2 2] 22)
    rw [World.size_alloc, World.size_alloc] at h
    exact h
  have e97 : Value.int .u8 97 = .int .u8 (nb 97) := by unfold nb; rfl
  have e98 : Value.int .u8 98 = .int .u8 (nb 98) := by unfold nb; rfl
  have e99 : Value.int .u8 99 = .int .u8 (nb 99) := by unfold nb; rfl
  refine ⟨rfl, fun _ => ⟨w.heap.size + 2, 0, rfl, by omega, fun i x hx => ?_⟩⟩
  match i, hx with
  | 0, hx =>
    simp only [List.getElem?_cons_zero, Option.some.injEq] at hx
    subst hx
    refine ⟨_, 1, 1, cell_of_row _ _ 0 _ _ _ b2, ⟨rfl, Nat.le_refl _, by unfold maxLen; omega, fun _ => ⟨w.heap.size, 0, rfl, by omega, fun j hj => ?_⟩⟩⟩
    obtain rfl : j = 0 := by omega
    rw [Nat.zero_add, cell_of_row _ _ _ _ _ _ b0]
    exact congrArg some e97
  | 1, hx =>
    simp only [List.getElem?_cons_succ, List.getElem?_cons_zero, Option.some.injEq] at hx
    subst hx
    refine ⟨_, 2, 2, cell_of_row _ _ 1 _ _ _ b2, ⟨rfl, Nat.le_refl _, by unfold maxLen; omega, fun _ => ⟨w.heap.size + 1, 0, rfl, by omega, fun j hj => ?_⟩⟩⟩
    rw [Nat.zero_add, cell_of_row _ _ _ _ _ _ b1]
    match j, hj with
    | 0, _ => exact congrArg some e98
    | 1, _ => exact congrArg some e99

end Go.Proofs.YtlpljedacohngaaGreatDoor
end

/-
  Texts: at most twelve of the texts, of at most 300 bytes, and all of them. Condition: the texts are known.
-/

section
set_option maxRecDepth 100000
set_option linter.unusedSimpArgs false
set_option linter.unusedVariables false
namespace Go.Proofs.YtlpljedacohngaaGreatDoor
open Go.RowKit

def cutT (xs : List (List B8)) : List (List B8) := (xs.take 12).map (·.take 300)

/-- A text that is nil, or has an address. -/
structure TxtN (w : World) (p : Nat) (A : Option Addr) (n c : Nat) (bs : List B8) : Prop where
  txt : Txt w p A n c bs
  nil : A = none → n = 0 ∧ c = 0
structure TxtsN (w : World) (p : Nat) (L : Option Addr) (n : Nat) (xs : List (List B8)) : Prop where
  len : xs.length = n
  cells : 0 < n → ∃ g o, L = some ⟨g, o, none⟩ ∧ g ≠ p ∧ ∀ i x, xs[i]? = some x → ∃ A k c, w.cell? ⟨g, o + i, none⟩ = some (.slice A k c) ∧ TxtN w p A k c x
theorem TxtsN.txts {w : World} {p : Nat} {L : Option Addr} {n : Nat} {xs : List (List B8)} (h : TxtsN w p L n xs) : Txts w p L n xs := by
  refine ⟨h.len, fun hn => ?_⟩
  obtain ⟨g, o, hL, hg, hc⟩ := h.cells hn
  refine ⟨g, o, hL, hg, fun i x hx => ?_⟩
  obtain ⟨A, k, c, h0, ht⟩ := hc i x hx
  exact ⟨A, k, c, h0, ht.txt⟩
theorem TxtN.at {w : World} {p q : Nat} {A : Option Addr} {n c : Nat} {bs : List B8} (h : TxtN w p A n c bs) (hq : w.heap.size ≤ q) : TxtN w q A n c bs := ⟨h.txt.at hq, h.nil⟩
theorem TxtN.below {w w' : World} {p B : Nat} {A : Option Addr} {n c : Nat} {bs : List B8} (h : TxtN w p A n c bs) (ho : Below B w w') (hB : w.heap.size ≤ B) : TxtN w' p A n c bs := ⟨h.txt.below ho hB, h.nil⟩
theorem TxtN.at' {w w' : World} {p : Nat} {A : Option Addr} {n c : Nat} {bs : List B8} (h : TxtN w' p A n c bs) (_hq : w.heap.size ≤ w'.heap.size) : TxtN w' w'.heap.size A n c bs := h.at (Nat.le_refl _)
theorem Txt.take {w : World} {p : Nat} {A : Option Addr} {n c : Nat} {bs : List B8} (h : Txt w p A n c bs) (k : Nat) (hk : k ≤ n) : Txt w p A k c (bs.take k) := by
  refine ⟨by rw [List.length_take, h.len]; omega, by have := h.cap; omega, h.capm, fun h0 => ?_⟩
  obtain ⟨g, o, hA, hg, hc⟩ := h.cells (by omega)
  refine ⟨g, o, hA, hg, fun j hj => ?_⟩
  rw [hc j (by omega)]
  simp [List.getD_eq_getElem?_getD, hj]
/-- Texts in memory of the call's own. -/
def OTexts (B : Nat) (w : World) (v : Value) (X : List (List B8)) : Prop := ∃ cells : List Value, w.ownsRow B 22 1 v X.length cells ∧ ∀ (j : Nat) (x : List B8), X[j]? = some x → ∃ A k c, cells[j]? = some (Value.slice A k c) ∧ TxtN w w.heap.size A k c x

theorem own_own_ne {w : World} {B B' e e' s s' n n' : Nat} {v v' : Value} {xs xs' : List Value} (h : w.ownsRow B e s v n xs) (h' : w.ownsRow B' e' s' v' n' xs') (hne : e ≠ e') : ∀ g, v.ownBlock = some g → v'.ownBlock ≠ some g := by
  intro g hg hg'
  rcases h.2 with ⟨rfl, _⟩ | ⟨b, cap, cur, rfl, _, hh, _⟩
  · simp [Value.ownBlock] at hg
  · rcases h'.2 with ⟨rfl, _⟩ | ⟨b', cap', cur', rfl, _, hh', _⟩
    · simp [Value.ownBlock] at hg'
    · have e1 : b = g := by simpa [Value.ownBlock] using hg
      have e2 : b' = g := by simpa [Value.ownBlock] using hg'
      subst e1 e2
      rw [hh] at hh'
      injection hh' with hh'
      injection hh' with _ ht
      exact hne ht
theorem own_ge {w : World} {B e s n : Nat} {v : Value} {xs : List Value} (h : w.ownsRow B e s v n xs) : ∀ g, v.ownBlock = some g → B ≤ g := by
  intro g hg
  rcases h.2 with ⟨rfl, _⟩ | ⟨b, cap, cur, rfl, hb, _⟩
  · simp [Value.ownBlock] at hg
  · have e1 : b = g := by simpa [Value.ownBlock] using hg
    omega
theorem own_grown {w w' : World} {B e e' s s' n n' : Nat} {v v' : Value} {xs xs' : List Value} (h : w.ownsRow B e s v n xs) (h' : w.ownsRow B e' s' v' n' xs') (hne : e ≠ e') (hg : w.grownBy w' v'.ownBlock) : w'.ownsRow B e s v n xs := by
  refine ownsRow_only (S := v'.ownBlock.toList) h ((Only.refl _ _).grown hg (fun k hk => .inl (by simp [hk]))) ?_
  intro k hk hm
  exact own_own_ne h h' hne k hk (by simpa using hm)

theorem new_slice (A : Option Addr) (m c : Nat) : ∀ u ∈ [Value.slice A m c], u.oneCell' = true := by
  intro u hu
  simp at hu
  subst hu
  rfl
theorem txt_cells {w : World} {p : Nat} {a : Addr} {n c : Nat} {bs : List B8} (h : Txt w p (some a) n c bs) : ∀ j u, (Vb bs)[j]? = some u → w.cell? (a.add j) = some u := by
  intro j u hu
  rw [Vb_get] at hu
  cases hx : bs[j]? with
  | none => rw [hx] at hu; cases hu
  | some x =>
    rw [hx] at hu
    simp only [Option.map_some, Option.some.injEq] at hu
    subst hu
    have hj : j < n := by have := (List.getElem?_eq_some_iff.1 hx).1; have := h.len; omega
    obtain ⟨g, o, hA, hg, hc⟩ := h.cells (by omega)
    simp only [Option.some.injEq] at hA
    subst hA
    rw [Addr.add_mid, hc j hj, List.getD_eq_getElem?_getD, hx]
    rfl
theorem cut_get {xs : List (List B8)} {k : Nat} (h1 : k < xs.length) (h2 : k < 12) : (cutT xs)[k]? = some (xs[k].take 300) := by
  unfold cutT
  rw [List.getElem?_map, List.getElem?_take, if_pos h2, List.getElem?_eq_getElem h1]
  rfl
theorem cut_flat {xs : List (List B8)} {k : Nat} {x : List B8} (h : (cutT xs)[k]? = some x) : ((cutT xs).take (k + 1)).flatten = ((cutT xs).take k).flatten ++ x := take_flat h
theorem cut_small (xs : List (List B8)) (k : Nat) (hk : k ≤ 12) : ((cutT xs).take k).flatten.length ≤ 300 * k := by
  induction k with
  | zero => simp
  | succ k ih =>
    cases hx : (cutT xs)[k]? with
    | none =>
      rw [List.getElem?_eq_none_iff] at hx
      rw [List.take_of_length_le (by omega)]
      have := ih (by omega)
      rw [List.take_of_length_le hx] at this
      omega
    | some x =>
      rw [cut_flat hx, List.length_append]
      have := ih (by omega)
      have hl : x.length ≤ 300 := by
        have hm := List.mem_of_getElem? hx
        unfold cutT at hm
        obtain ⟨y, _, rfl⟩ := List.mem_map.1 hm
        rw [List.length_take]
        omega
      omega

/-- The cells gathered so far. -/
def Gathered (w0 : World) (X : List (List B8)) (k : Nat) (cells : List Value) : Prop := ∀ j x, j < k → X[j]? = some x → ∃ A m c, cells[j]? = some (Value.slice A m c) ∧ TxtN w0 w0.heap.size A m c x
theorem Gathered.snoc {w0 : World} {X : List (List B8)} {k : Nat} {cells : List Value} (h : Gathered w0 X k cells) (hl : cells.length = k) {A : Option Addr} {m c : Nat} {x : List B8} (hx : X[k]? = some x) (ht : TxtN w0 w0.heap.size A m c x) : Gathered w0 X (k + 1) (cells ++ [Value.slice A m c]) := by
  intro j y hj hy
  by_cases hjk : j < k
  · obtain ⟨A', m', c', h1, h2⟩ := h j y hjk hy
    exact ⟨A', m', c', by rw [List.getElem?_append_left (by omega)]; exact h1, h2⟩
  · obtain rfl : j = k := by omega
    rw [hx] at hy
    injection hy with hy
    subst hy
    exact ⟨A, m, c, by rw [List.getElem?_append_right (by omega), hl]; simp, ht⟩

def TextsRel (w : World) (xs : List (List B8)) (n : Nat) (i v va : Value) (wr : World) : Prop := ∃ k : Nat, k ≤ n ∧ k ≤ 12 ∧ i = .int .i64 k ∧ (∃ cells, wr.ownsRow w.heap.size 22 1 v k cells ∧ Gathered w (cutT xs) k cells) ∧
  wr.ownsRow w.heap.size 5 1 va ((cutT xs).take k).flatten.length (Vb ((cutT xs).take k).flatten) ∧ Below w.heap.size w wr

end Go.Proofs.YtlpljedacohngaaGreatDoor
end

/-
  Appends: onto a row of the call's own, whatever comes; as a step of a region that draws, and of one that doesn't. Plain theorems on the rules; conditions: those of each.
-/

section
set_option linter.unusedSimpArgs false
set_option linter.unusedVariables false
set_option maxRecDepth 100000
namespace Go.Proofs.YtlpljedacohngaaGreatDoor
open Go.RowKit

theorem wpList_run {P : Program} {ops : Array Oper} {Q : Exit → Act → World → Prop} {rest : List Oper} {o : Oper} {a : Act} {w w' : World} {y : Value} (hgd : o.guard = none) (hr : (execOp a.eval o).run P w = .ok (.value y) w') (h : wpList P ops Q rest (a.put o.dst y) w') : wpList P ops Q (o :: rest) a w :=
  wpList_plain hgd fun K hK => by unfold Oper.wp; rw [hr]; exact hK _ _ h
theorem step_run {P : Program} {ops : Array Oper} {o : Oper} {a : Act} {w w' : World} {K : Act → World → Prop} {Q : Exit → Act → World → Prop} {E : Prop} {y : Value} (hgd : o.guard = none) (hr : (execOp a.eval o).run P w = .ok (.value y) w') (h : K (a.put o.dst y) w') :
    if Region.wanted o (yielded ops a.tmps) = true then Oper.wp P o a w K Q else E := by
  have hw : Region.wanted o (yielded ops a.tmps) = true := by simp [Region.wanted, hgd]
  rw [if_pos hw]
  unfold Oper.wp
  rw [hr]
  exact h
section
variable {P : Program} {ρ : Operand → Value} {o : Oper} {w : World}
/-- 'append(own, x..)', of however many. -/
theorem xe_app_any {s x : Operand} {t e base : Nat} {z : Value} {size bytes : Nat} (ho : o.op = .call { callee := .builtin .append, args := #[s, x], argTypes := #[t, t] }) (ht : P.underlying t = some (.slice e)) (hi : (P.info? e).map (fun i => (i.zero, i.size, i.bytes)) = some (some z, size, bytes)) (hzs : z.cells.size = size) (hsz : 0 < size)
    {v : Value} {n : Nat} {xs : List Value} (hs : ρ s = v) (hown : w.ownsRow base e size v n xs) {A : Option Addr} {m c : Nat} (hx : ρ x = .slice A m c) (news : List Value) (hl : news.length = m * size) (hnews : 0 < m → ∃ g off, A = some ⟨g, off, none⟩ ∧ ∀ (j : Nat) u, news[j]? = some u → w.cell? ⟨g, off + j, none⟩ = some u) (h1 : ∀ u ∈ news, u.oneCell' = true) (hmx : n + m ≤ 1000000) (hb : bytes ≤ 1000) (hbase : base ≤ w.heap.size) :
    ∃ v' w', (execOp ρ o).run P w = .ok (.value v') w' ∧ w'.ownsRow base e size v' (n + m) (xs ++ news) ∧ Only v.ownBlock.toList w w' ∧ (v'.ownBlock = v.ownBlock ∨ v'.ownBlock = some w.heap.size) := by
  rcases Nat.eq_zero_or_pos m with hm | hm
  · subst hm
    have hn : news = [] := List.eq_nil_of_length_eq_zero (by omega)
    subst hn
    obtain ⟨i, i1, i2, i3, i4⟩ := info_parts hi
    obtain ⟨R, q, hv, hq⟩ : ∃ R q, v = .slice R n q ∧ n ≤ q := by
      rcases hown.2 with ⟨rfl, rfl⟩ | ⟨g, cap, cur, rfl, _, _, h2, _⟩
      · exact ⟨_, _, rfl, Nat.le_refl _⟩
      · exact ⟨_, _, rfl, h2⟩
    subst hv
    refine ⟨.slice R n q, w, ?_, by rw [List.append_nil]; exact hown, Only.refl _ _, .inl rfl⟩
    have hrun := run_append_nothing (P := P) w t t o.type e i ht i1 R n q hq (.slice A 0 c)
      ⟨.inl ⟨_, ht⟩, fun w' => by cases A <;> simp [Builtin.lenOf], by cases A <;> simp [Builtin.firstCells, loadCells, loadCellsFrom], by cases A <;> simp [Builtin.firstCells, loadCells, loadCellsFrom], by simp, by simp⟩
    unfold execOp resolve
    simp only [ho, invoke, builtin, Sem.run_bind, Sem.run_pure, Result.andThen_ok, List.map_toArray, List.map_cons, List.map_nil, hs, hx, hrun]
  · obtain ⟨g, off, rfl, hc⟩ := hnews hm
    obtain ⟨y, w', hr, g', cap, rfl, k1, k2, k3⟩ := xe_app_own (P := P) (ρ := ρ) (w := w) (G := fun y w' => ∃ g' cap, y = .slice (some ⟨g', 0, none⟩) (n + m) cap ∧ w'.ownsRow base e size (.slice (some ⟨g', 0, none⟩) (n + m) cap) (n + m) (xs ++ news) ∧ Only v.ownBlock.toList w w' ∧ (v.ownBlock = some g' ∨ g' = w.heap.size)) ho ht hi hzs hsz hs hown hx news hl hc h1 hm hmx hb hbase (fun g' cap w' k1 k2 k3 => ⟨g', cap, rfl, k1, k2, k3⟩)
    exact ⟨_, w', hr, k1, k2, k3.imp (fun h => h.symm) (fun h => by rw [h]; rfl)⟩
end
section
variable {P : Program} {ops : Array Oper} {Q : Exit → Act → World → Prop} {o : Oper} {a : Act} {w : World}
theorem step_app {K : Act → World → Prop} {E : Prop} {s x : Operand} {t e base : Nat} {z : Value} {size bytes : Nat} (hgd : o.guard = none) (ho : o.op = .call { callee := .builtin .append, args := #[s, x], argTypes := #[t, t] }) (ht : P.underlying t = some (.slice e)) (hi : (P.info? e).map (fun i => (i.zero, i.size, i.bytes)) = some (some z, size, bytes)) (hzs : z.cells.size = size) (hsz : 0 < size)
    {v : Value} {n : Nat} {xs : List Value} {A : Option Addr} {m c : Nat} (news : List Value) (hs : a.eval s = v) (hown : w.ownsRow base e size v n xs) (hx : a.eval x = .slice A m c) (hl : news.length = m * size) (hnews : 0 < m → ∃ g off, A = some ⟨g, off, none⟩ ∧ ∀ (j : Nat) u, news[j]? = some u → w.cell? ⟨g, off + j, none⟩ = some u) (h1 : ∀ u ∈ news, u.oneCell' = true) (hmx : n + m ≤ 1000000) (hb : bytes ≤ 1000) (hbase : base ≤ w.heap.size)
    (h : ∀ v' w', w'.ownsRow base e size v' (n + m) (xs ++ news) → Only v.ownBlock.toList w w' → (v'.ownBlock = v.ownBlock ∨ v'.ownBlock = some w.heap.size) → K (a.put o.dst v') w') :
    if Region.wanted o (yielded ops a.tmps) = true then Oper.wp P o a w K Q else E := by
  obtain ⟨v', w', hr, k1, k2, k3⟩ := xe_app_any (P := P) (ρ := a.eval) (w := w) ho ht hi hzs hsz hs hown hx news hl hnews h1 hmx hb hbase
  exact step_run hgd hr (h v' w' k1 k2 k3)
theorem wpList_app {rest : List Oper} {s x : Operand} {t e base : Nat} {z : Value} {size bytes : Nat} (hgd : o.guard = none) (ho : o.op = .call { callee := .builtin .append, args := #[s, x], argTypes := #[t, t] }) (ht : P.underlying t = some (.slice e)) (hi : (P.info? e).map (fun i => (i.zero, i.size, i.bytes)) = some (some z, size, bytes)) (hzs : z.cells.size = size) (hsz : 0 < size)
    {v : Value} {n : Nat} {xs : List Value} {A : Option Addr} {m c : Nat} (news : List Value) (hs : a.eval s = v) (hown : w.ownsRow base e size v n xs) (hx : a.eval x = .slice A m c) (hl : news.length = m * size) (hnews : 0 < m → ∃ g off, A = some ⟨g, off, none⟩ ∧ ∀ (j : Nat) u, news[j]? = some u → w.cell? ⟨g, off + j, none⟩ = some u) (h1 : ∀ u ∈ news, u.oneCell' = true) (hmx : n + m ≤ 1000000) (hb : bytes ≤ 1000) (hbase : base ≤ w.heap.size)
    (h : ∀ v' w', w'.ownsRow base e size v' (n + m) (xs ++ news) → Only v.ownBlock.toList w w' → (v'.ownBlock = v.ownBlock ∨ v'.ownBlock = some w.heap.size) → wpList P ops Q rest (a.put o.dst v') w') : wpList P ops Q (o :: rest) a w := by
  obtain ⟨v', w', hr, k1, k2, k3⟩ := xe_app_any (P := P) (ρ := a.eval) (w := w) ho ht hi hzs hsz hs hown hx news hl hnews h1 hmx hb hbase
  exact wpList_run hgd hr (h v' w' k1 k2 k3)
end
theorem addr_zero (a : Addr) : a.add 0 = a := by
  obtain ⟨b, o, s⟩ := a
  unfold Addr.add
  split <;> simp_all
section
variable {P : Program} {ρ : Operand → Value} {o : Oper} {w : World}
/-- A slice type whose element's size is known. -/
def subT (P : Program) (t : TypeId) : Bool := match P.underlying t with
  | some (.slice e) => (P.elem t == e) && (P.info? e).isSome
  | _ => false
/-- 'x[:k]'. -/
theorem x_sub_h {t : TypeId} {x k : Operand} {A : Option Addr} {n c : Nat} {z : Int} (ho : o.op = .slice t x none (some k) none) (ht : subT P t = true) (hx : ρ x = .slice A n c) (hk : ρ k = .int .i64 z) (h0 : 0 ≤ z) (h1 : z ≤ c) : (execOp ρ o).run P w = .ok (.value (.slice A z.toNat c)) w := by
  unfold subT at ht
  split at ht
  · rename_i e hu
    rw [Bool.and_eq_true, beq_iff_eq] at ht
    obtain ⟨he, hi⟩ := ht
    subst he
    obtain ⟨i, hi⟩ := Option.isSome_iff_exists.1 hi
    unfold execOp
    rw [ho]
    simp only [hx, hk, Option.map_some, Option.map_none]
    have hs := run_sliceAt_slice (P := P) w t (.slice A n c) none (some (.int .i64 z)) none hu
    have hh := run_slice_h (P := P) w t A n c hu .i64 z h0 h1
    simp only [Sem.run_bind, hs, hh]
    simp [sizeOf, typeInfo, run_program, hi, sliced, Result.andThen]
    cases A with
    | none => exact fun _ => rfl
    | some a => exact fun _ => congrArg some (addr_zero a)
  · cases ht
theorem x_min2 {t : TypeId} {x k : Operand} {a b : Int} (ho : o.op = .call { callee := .builtin .min, args := #[x, k], argTypes := #[t, t] }) (hx : ρ x = .int .i64 a) (hk : ρ k = .int .i64 b) : (execOp ρ o).run P w = .ok (.value (.int .i64 (min a b))) w := by
  unfold execOp resolve
  rw [ho]
  simp only [Sem.run_bind, Sem.run_pure, Result.andThen_ok]
  have : (if b < a then b else a) = min a b := by
    rw [Int.min_def]
    split <;> split <;> omega
  simp [invoke, builtin, Builtin.min_, Builtin.min2, hx, hk, this]
end
theorem only_cell {S : List Nat} {w w' : World} (h : Only S w w') {g o : Nat} {u : Value} (hc : w.cell? ⟨g, o, none⟩ = some u) (hg : g ∉ S) : w'.cell? ⟨g, o, none⟩ = some u := by
  rw [← hc]
  unfold World.cell?
  rw [show (⟨g, o, none⟩ : Addr).block = g from rfl, h.block g (World.block_lt_of_cell? w _ hc) hg]
theorem own_far {w : World} {N e s n : Nat} {v : Value} {xs : List Value} (h : w.ownsRow N e s v n xs) {g : Nat} (hg : g < N) : g ∉ v.ownBlock.toList := by
  intro hm
  have := (h.lt g (by simpa using hm)).1
  omega
theorem pairs_4 {ρ : Operand → Value} {x0 x1 x2 x3 : Operand} {y0 y1 y2 y3 : Value} {k0 k1 k2 k3 : Nat} (h0 : ρ x0 = y0) (h1 : ρ x1 = y1) (h2 : ρ x2 = y2) (h3 : ρ x3 = y3) : (#[(k0, x0), (k1, x1), (k2, x2), (k3, x3)] : Array (Nat × Operand)).map (fun (i, x) => (i, ρ x)) = #[(k0, y0), (k1, y1), (k2, y2), (k3, y3)] := by simp [h0, h1, h2, h3]
/-- A row of nothing in a block of its own. -/
theorem own_made {w : World} {N p e size : Nat} (h : Blk w p e []) (hp : N ≤ p) : w.ownsRow N e size (.slice (some ⟨p, 0, none⟩) 0 0) 0 [] := ⟨by simp, .inr ⟨p, 0, #[], rfl, hp, by simpa [Blk] using h, Nat.le_refl _, by decide, by simp, by simp⟩⟩
theorem own_new (w : World) (e size : Nat) : (w.alloc (.cells #[] e)).ownsRow w.heap.size e size (.slice (some ⟨w.heap.size, 0, none⟩) 0 0) 0 [] := own_made (Blk.new w e []) (Nat.le_refl _)
/-- 'append([]T{}, x..)', of however many. -/
theorem xe_app_zero {P : Program} {ρ : Operand → Value} {o : Oper} {w : World} {s x : Operand} {t e N : Nat} {z : Value} {size bytes : Nat} (ho : o.op = .call { callee := .builtin .append, args := #[s, x], argTypes := #[t, t] }) (ht : P.underlying t = some (.slice e)) (hi : (P.info? e).map (fun i => (i.zero, i.size, i.bytes)) = some (some z, size, bytes)) (hzs : z.cells.size = size) (hsz : 0 < size)
    {p : Nat} (hs : ρ s = .slice (some ⟨p, 0, none⟩) 0 0) (hp : N ≤ p) (hk : Blk w p e []) {A : Option Addr} {m c : Nat} (hx : ρ x = .slice A m c) (news : List Value) (hl : news.length = m * size) (hnews : 0 < m → ∃ g off, A = some ⟨g, off, none⟩ ∧ ∀ (j : Nat) u, news[j]? = some u → w.cell? ⟨g, off + j, none⟩ = some u) (h1 : ∀ u ∈ news, u.oneCell' = true) (hmx : m ≤ 1000000) (hb : bytes ≤ 1000) (hN : N ≤ w.heap.size) :
    ∃ R c' w', (execOp ρ o).run P w = .ok (.value (.slice R m c')) w' ∧ w'.ownsRow N e size (.slice R m c') m news ∧ Below w.heap.size w w' := by
  rcases Nat.eq_zero_or_pos m with hm | hm
  · subst hm
    have hn : news = [] := List.eq_nil_of_length_eq_zero (by omega)
    subst hn
    obtain ⟨i, i1, i2, i3, i4⟩ := info_parts hi
    exact ⟨_, _, w, x_app_none (S := A) (c := c) ho ht i1 hs hx, own_made hk hp, Below.refl _ _⟩
  · obtain ⟨g, off, rfl, hc⟩ := hnews hm
    obtain ⟨i, i1, i2, i3, i4⟩ := info_parts hi
    subst i3
    have hown : w.ownsRow N e i.size (.slice (some ⟨p, 0, none⟩) 0 0) 0 [] := own_made hk hp
    obtain ⟨cap, es, hr, h2, h3⟩ := x_app_new (P := P) (ρ := ρ) (w := w) ho ht hi hs hx news hl hc h1 hm hmx hb
    obtain ⟨y, w', hr', g', cap', rfl, k1, k2, k3⟩ := xe_app_own (P := P) (ρ := ρ) (w := w) (G := fun y w' => ∃ g' cap, y = .slice (some ⟨g', 0, none⟩) (0 + m) cap ∧ w'.ownsRow N e i.size (.slice (some ⟨g', 0, none⟩) (0 + m) cap) (0 + m) ([] ++ news) ∧ Only (Value.slice (some ⟨p, 0, none⟩) 0 0).ownBlock.toList w w' ∧ ((Value.slice (some ⟨p, 0, none⟩) 0 0).ownBlock = some g' ∨ g' = w.heap.size)) ho ht hi hzs hsz hs hown hx news hl hc h1 hm (by omega) hb hN (fun g' cap w' k1 k2 k3 => ⟨g', cap, rfl, k1, k2, k3⟩)
    rw [hr] at hr'
    injection hr' with e1 e2
    injection e1 with e1
    injection e1 with e3 e4 e5
    subst e2 e5
    injection e3 with e3
    injection e3 with e3
    subst e3
    rw [Nat.zero_add, List.nil_append] at k1
    exact ⟨_, _, _, hr, k1, drew_alloc_below w _⟩
theorem xe_app_zeroG {P : Program} {ρ : Operand → Value} {o : Oper} {w : World} {G : Value → World → Prop} {s x : Operand} {t e N : Nat} {z : Value} {size bytes : Nat} (ho : o.op = .call { callee := .builtin .append, args := #[s, x], argTypes := #[t, t] }) (ht : P.underlying t = some (.slice e)) (hi : (P.info? e).map (fun i => (i.zero, i.size, i.bytes)) = some (some z, size, bytes)) (hzs : z.cells.size = size) (hsz : 0 < size)
    {p : Nat} (hs : ρ s = .slice (some ⟨p, 0, none⟩) 0 0) (hp : N ≤ p) (hk : Blk w p e []) {A : Option Addr} {m c : Nat} (hx : ρ x = .slice A m c) (news : List Value) (hl : news.length = m * size) (hnews : 0 < m → ∃ g off, A = some ⟨g, off, none⟩ ∧ ∀ (j : Nat) u, news[j]? = some u → w.cell? ⟨g, off + j, none⟩ = some u) (h1 : ∀ u ∈ news, u.oneCell' = true) (hmx : m ≤ 1000000) (hb : bytes ≤ 1000) (hN : N ≤ w.heap.size)
    (hG : ∀ R c' w', w'.ownsRow N e size (.slice R m c') m news → Below w.heap.size w w' → G (.slice R m c') w') : ∃ y w', (execOp ρ o).run P w = .ok (.value y) w' ∧ G y w' := by
  obtain ⟨R, c', w', hr, k1, k2⟩ := xe_app_zero ho ht hi hzs hsz hs hp hk hx news hl hnews h1 hmx hb hN
  exact ⟨_, w', hr, hG R c' w' k1 k2⟩
/-- A row of one's own, with its form. -/
def ownSV (N e size m : Nat) (cs : List Value) : Value → World → Prop := fun u w => ∃ R c, u = .slice R m c ∧ w.ownsRow N e size (.slice R m c) m cs
theorem ownSV.st (N e size m : Nat) (cs : List Value) : StV (ownSV N e size m cs) := fun _ _ _ ⟨R, c, h1, h2⟩ hb => ⟨R, c, h1, ownsRow_only (S := []) h2 (Only.of_below hb) (by simp)⟩
end Go.Proofs.YtlpljedacohngaaGreatDoor
end

/-
  What the digests' constants hold when a call begins. Plain theorems on readings; condition: the listed variable reads as its initialiser lays it.
-/

section
set_option linter.unusedSimpArgs false
set_option linter.unusedVariables false
set_option maxRecDepth 100000
namespace Go.Proofs.YtlpljedacohngaaGreatDoor
open Go.ChangeShapes Go.WideShapes Go.ChangeAt Go.RowKit

theorem gTab : Tryz.prog.globalNamed "creel/digest.roots" = some 0 := by kernel_rfl
theorem gTabType : (Tryz.prog.globals[0]?).map (·.type) = some 148 := by kernel_rfl
theorem cells74 : Tryz.prog.cellsOf 148 = 64 := by kernel_rfl
theorem cells39 : Tryz.prog.cellsOf 115 = 1 := by kernel_rfl
theorem roots_nat : ∀ i : Nat, i < 64 → rootsZ.getD i 0 = nw (Ks.getD i 0) := by decide +kernel
theorem roots_head {W : World} {rest : List (String × DataW Unit)} (h : laidMet Tryz.prog (("creel/digest.roots", Rows.laid_creel_digest_roots) :: rest) W) : Roots Ks W := by
  intro i hi
  have := (Lib.tabIs_of_head (zs := rootsZ) (rest := rest) gTab gTabType Tryz.underlying148 Tryz.underlying115 cells39 cells74 h).cell gTab i hi
  rw [roots_nat i hi] at this
  exact this
end Go.Proofs.YtlpljedacohngaaGreatDoor
end

/-
  A text cut at one byte: the pieces joined are the text again. Plain definitions and theorems; no condition.
-/

section
set_option linter.unusedSimpArgs false
set_option linter.unusedVariables false
set_option maxRecDepth 100000
namespace Go.Proofs.YtlpljedacohngaaGreatDoor
open Go.RowKit

/-- A list of bytes cut at each c. -/
def splitL (c : UInt8) : List UInt8 → List (List UInt8)
  | [] => [[]]
  | b :: l => if b = c then [] :: splitL c l else match splitL c l with
    | [] => [[b]]
    | x :: xs => (b :: x) :: xs
theorem splitL_ne (c : UInt8) : ∀ l, splitL c l ≠ []
  | [] => by simp [splitL]
  | b :: l => by
    unfold splitL
    split
    · simp
    · split <;> simp
theorem join_cons2 (x y : List UInt8) (r : List (List UInt8)) (sep : List UInt8) : Lib.join (x :: y :: r) sep = x ++ sep ++ Lib.join (y :: r) sep := by
  rw [Lib.join_cons, Lib.join_cons]
  unfold Lib.joinTail
  simp
theorem join_splitL (c : UInt8) : ∀ l, Lib.join (splitL c l) [c] = l
  | [] => by simp [splitL, Lib.join_one]
  | b :: l => by
    have ih := join_splitL c l
    unfold splitL
    split
    · rename_i h
      subst h
      have := splitL_ne b l
      cases hq : splitL b l with
      | nil => exact absurd hq this
      | cons y r =>
        rw [hq] at ih
        rw [join_cons2, ih]
        simp
    · split
      · rename_i hq
        exact absurd hq (splitL_ne c l)
      · rename_i x xs hq
        rw [hq] at ih
        rw [Lib.join_cons] at ih ⊢
        rw [← ih]
        simp
theorem splitK_one (c : UInt8) : ∀ l : List UInt8, Lib.splitK [c] 0 (Lib.count l [c]) l = splitL c l
  | [] => by
    rw [Lib.count_miss (by simp [Lib.index])]
    rfl
  | b :: l => by
    have ih := splitK_one c l
    by_cases h : b = c
    · subst h
      have hix : Lib.index (b :: l) [b] = ((0 : Nat) : Int) := by rw [Lib.index]; simp [List.isPrefixOf]
      rw [Lib.count_cons_eq, Nat.add_comm, Lib.splitK, hix, if_neg (by decide)]
      unfold splitL
      rw [if_pos rfl, ← ih]
      simp
    · have hp : ([c] : List UInt8).isPrefixOf (b :: l) = false := by simp [List.isPrefixOf, Ne.symm h]
      have hix : Lib.index (b :: l) [c] = if Lib.index l [c] == -1 then -1 else Lib.index l [c] + 1 := by rw [Lib.index, hp]; simp
      rw [Lib.count_cons_ne b c l h]
      unfold splitL
      rw [if_neg h, ← ih]
      by_cases hm : Lib.index l [c] = -1
      · rw [Lib.count_miss hm]
        simp [Lib.splitK]
      · have hge := Lib.index_ge l [c]
        obtain ⟨j, hj⟩ : ∃ j : Nat, Lib.index l [c] = j := ⟨(Lib.index l [c]).toNat, by omega⟩
        have hix' : Lib.index (b :: l) [c] = ((j + 1 : Nat) : Int) := by rw [hix, if_neg (fun e => hm (beq_iff_eq.1 e)), hj]; omega
        rw [Lib.count_hit (by simp) hj, Nat.add_comm, Lib.splitK, Lib.splitK, hix', hj, if_neg (by intro e; have := beq_iff_eq.1 e; omega), if_neg (by intro e; have := beq_iff_eq.1 e; omega)]
        simp only [Int.toNat_natCast, List.length_cons, List.length_nil, Nat.add_zero, Nat.zero_add, List.take_succ_cons]
        rw [show j + 1 + 1 = (j + 1) + 1 from rfl, List.drop_succ_cons]
theorem slashB_data : slashB.data.toList = [47] := rfl
theorem splitP_data (t : ByteArray) : (splitP t).map (·.data.toList) = splitL 47 t.data.toList := by
  unfold splitP
  rw [Lib.splitB_data, slashB_data, show Lib.countB t slashB = Lib.count t.data.toList [47] from rfl, splitK_one]
theorem join_split (t : ByteArray) : joinP (splitP t) = t := by
  unfold joinP
  rw [splitP_data, join_splitL]
/-- A path's text is the text that it was parsed of. -/
theorem ptext_parse {t : ByteArray} (h : (parseB t).2 = 0) : textP (parseB t).1 = t := by
  unfold parseB at h ⊢
  by_cases h1 : 160 < t.size
  · rw [if_pos h1] at h; cases h
  · rw [if_neg h1] at h ⊢
    by_cases h2 : t.data.toList = [47]
    · rw [if_pos h2]
      have : t = slashB := by
        obtain ⟨⟨l⟩⟩ := t
        have : l = [47] := h2
        subst this
        rfl
      rw [this]
      rfl
    · rw [if_neg h2] at h ⊢
      by_cases h3 : (begP t && rightB (splitP (cutP t))) = true
      · rw [if_pos h3]
        unfold textP
        rw [join_split]
        have hb : Lib.hasPrefix t.data.toList [47] = true := (Bool.and_eq_true_iff.1 h3).1
        unfold cutP Lib.trimPrefix
        rw [if_pos hb]
        obtain ⟨⟨l⟩⟩ := t
        cases l with
        | nil => cases hb
        | cons b l =>
          have : b = 47 := by
            unfold Lib.hasPrefix at hb
            simp [List.isPrefixOf] at hb
            exact hb.symm
          subst this
          rfl
      · rw [if_neg h3] at h; cases h
theorem parse_right {t : ByteArray} (h : (parseB t).2 = 0) : rightB (parseB t).1 = true := by
  unfold parseB at h ⊢
  split
  · rename_i h1
    rw [if_pos h1] at h
    cases h
  · rename_i h1
    rw [if_neg h1] at h
    split
    · rfl
    · rename_i h2
      rw [if_neg h2] at h
      split
      · rename_i h3
        exact (Bool.and_eq_true_iff.1 h3).2
      · rename_i h3
        rw [if_neg h3] at h
        cases h
theorem parse_small (t : ByteArray) : (parseB t).1.length ≤ 8 ∧ (joinP (parseB t).1).size ≤ 200 := by
  by_cases h : (parseB t).2 = 0
  · have hr := parse_right h
    have ht := ptext_parse h
    have hs : t.size ≤ 160 := by
      unfold parseB at h
      split at h
      · cases h
      · omega
    refine ⟨by unfold rightB at hr; simp only [Bool.and_eq_true, decide_eq_true_eq] at hr; exact hr.1, ?_⟩
    have : (textP (parseB t).1).size = slashB.size + (joinP (parseB t).1).size := by unfold textP; rw [ByteArray.size_append]
    rw [ht] at this
    omega
  · have : (parseB t).1 = [] := by
      unfold parseB at h ⊢
      split
      · rfl
      · split
        · rfl
        · split
          · rename_i h1 h2 h3
            rw [if_neg h1, if_neg h2, if_pos h3] at h
            exact absurd rfl h
          · rfl
    rw [this]
    exact ⟨by simp, by rw [show joinP [] = ⟨#[]⟩ by simp [joinP, Lib.join_nil]]; exact Nat.zero_le 200⟩
end Go.Proofs.YtlpljedacohngaaGreatDoor
end

/-
  The memory words of mode's laws: stats as values, lists of numbers that lie in memory. Plain theorems on worlds; no condition.
-/

section
set_option linter.unusedSimpArgs false
set_option linter.unusedVariables false
set_option maxRecDepth 100000
namespace Go.Proofs.YtlpljedacohngaaGreatDoor
open Go.RowKit

theorem mnew (w : World) (o : Obj) : Below w.heap.size w (w.alloc o) := (Below.refl _ _).alloc (Nat.le_refl _) _
theorem mdrewN (w : World) (n : Nat) : Below w.heap.size w (w.drewN n) := ⟨rfl, rfl, rfl, Nat.le_refl _, fun _ _ => rfl⟩
theorem mdrew (w : World) : Below w.heap.size w w.drew := ⟨rfl, rfl, rfl, Nat.le_refl _, fun _ _ => rfl⟩
theorem mthen {w a b : World} (h : Below w.heap.size w a) (k : Below a.heap.size a b) : Below w.heap.size w b := h.trans (k.mono h.size)
theorem ret_num {k : IntKind} {a b : Int} (h : a = b) : Ending.returned (.int k a) = .returned (.int k b) := by rw [h]
theorem ret_bool {a b : Bool} (h : a = b) : Ending.returned (.bool a) = .returned (.bool b) := by rw [h]

theorem mcell {a b : World} {p : Addr} {v : Value} (h : a.cell? p = some v) (hb : Below a.heap.size a b) : b.cell? p = some v := (hb.cell (World.block_lt_of_cell? a p h)).trans h

/-- A stat as a value. -/
abbrev stv (k m o g : Int) : Value := .agg #[.int .i64 k, .int .i64 m, .int .i64 o, .int .i64 g]
def sts (k m o g : Int) : List Value := [.int .i64 k, .int .i64 m, .int .i64 o, .int .i64 g]

/-- A slice of numbers that reads as a list. -/
structure MIn (w : World) (A : Option Addr) (n c : Nat) (ps : List Int) : Prop where
  len : ps.length = n
  cap : n ≤ c
  big : n ≤ 9223372036854775807
  bound : ∀ x ∈ ps, -9223372036854775808 ≤ x ∧ x ≤ 9223372036854775807
  cells : 0 < n → ∃ g o, A = some ⟨g, o, none⟩ ∧ g < w.heap.size ∧ ∀ (j : Nat) (x : Int), ps[j]? = some x → w.cell? ⟨g, o + j, none⟩ = some (.int .i64 x)
theorem MIn.below {w w' : World} {A : Option Addr} {n c : Nat} {ps : List Int} (h : MIn w A n c ps) (hb : Below w.heap.size w w') : MIn w' A n c ps := by
  refine ⟨h.len, h.cap, h.big, h.bound, fun hn => ?_⟩
  obtain ⟨g, o, hA, hg, hc⟩ := h.cells hn
  exact ⟨g, o, hA, Nat.lt_of_lt_of_le hg hb.size, fun j x hx => (hb.cell (p := ⟨g, o + j, none⟩) hg).trans (hc j x hx)⟩
theorem MIn.take {w : World} {A : Option Addr} {n c : Nat} {ps : List Int} (h : MIn w A n c ps) (m : Nat) (hm : m ≤ n) : MIn w A m c (ps.take m) := by
  refine ⟨by rw [List.length_take]; have := h.len; omega, by have := h.cap; omega, by have := h.big; omega, fun x hx => h.bound x (List.mem_of_mem_take hx), fun hn => ?_⟩
  obtain ⟨g, o, hA, hg, hc⟩ := h.cells (by omega)
  refine ⟨g, o, hA, hg, fun j x hx => ?_⟩
  rw [List.getElem?_take] at hx
  split at hx
  · exact hc j x hx
  · cases hx
/-- A list that has just been laid. -/
theorem MIn.blk {w : World} {g : Nat} {t : TypeId} {ps : List Int} (h : Blk w g t (ps.map (Value.int .i64))) (hb : ∀ x ∈ ps, -9223372036854775808 ≤ x ∧ x ≤ 9223372036854775807) (hl : ps.length ≤ 9223372036854775807) : MIn w (some ⟨g, 0, none⟩) ps.length ps.length ps := by
  refine ⟨rfl, Nat.le_refl _, hl, hb, fun _ => ⟨g, 0, rfl, h.lt, fun j x hx => ?_⟩⟩
  rw [Nat.zero_add, h.cell j, List.getElem?_map, hx]
  rfl
theorem MIn.one (w : World) (t : TypeId) (a : Int) (h0 : -9223372036854775808 ≤ a) (h1 : a ≤ 9223372036854775807) : MIn (w.alloc (.cells #[.int .i64 a] t)) (some ⟨w.heap.size, 0, none⟩) 1 1 [a] :=
  MIn.blk (ps := [a]) (Blk.new w t [.int .i64 a]) (fun x hx => by simp only [List.mem_singleton] at hx; subst hx; exact ⟨h0, h1⟩) (by simp)
theorem MIn.two (w : World) (t : TypeId) (a b : Int) (h0 : -9223372036854775808 ≤ a) (h1 : a ≤ 9223372036854775807) (h2 : -9223372036854775808 ≤ b) (h3 : b ≤ 9223372036854775807) : MIn (w.alloc (.cells #[.int .i64 a, .int .i64 b] t)) (some ⟨w.heap.size, 0, none⟩) 2 2 [a, b] :=
  MIn.blk (ps := [a, b]) (Blk.new w t [.int .i64 a, .int .i64 b]) (fun x hx => by simp only [List.mem_cons, List.not_mem_nil, or_false] at hx; rcases hx with rfl | rfl <;> omega) (by simp)
theorem MIn.two1 (w : World) (X : Obj) (t : TypeId) (a b : Int) (h0 : -9223372036854775808 ≤ a) (h1 : a ≤ 9223372036854775807) (h2 : -9223372036854775808 ≤ b) (h3 : b ≤ 9223372036854775807) : MIn ((w.alloc X).alloc (.cells #[.int .i64 a, .int .i64 b] t)) (some ⟨w.heap.size + 1, 0, none⟩) 2 2 [a, b] := by
  have := MIn.two (w.alloc X) t a b h0 h1 h2 h3
  rwa [World.size_alloc] at this
theorem MIn.two2 (w : World) (X Y : Obj) (t : TypeId) (a b : Int) (h0 : -9223372036854775808 ≤ a) (h1 : a ≤ 9223372036854775807) (h2 : -9223372036854775808 ≤ b) (h3 : b ≤ 9223372036854775807) : MIn (((w.alloc X).alloc Y).alloc (.cells #[.int .i64 a, .int .i64 b] t)) (some ⟨w.heap.size + 1 + 1, 0, none⟩) 2 2 [a, b] := by
  have := MIn.two ((w.alloc X).alloc Y) t a b h0 h1 h2 h3
  rwa [World.size_alloc, World.size_alloc] at this
/-- A stat's box. -/
def Box (w : World) (b : Nat) (t : TypeId) (k m o g : Int) : Prop := Blk w b t [.int .i64 k, .int .i64 m, .int .i64 o, .int .i64 g]
theorem Box.cells {w : World} {b : Nat} {t : TypeId} {k m o g : Int} (h : Box w b t k m o g) :
    w.cell? ⟨b, 0, none⟩ = some (.int .i64 k) ∧ w.cell? ⟨b, 1, none⟩ = some (.int .i64 m) ∧ w.cell? ⟨b, 2, none⟩ = some (.int .i64 o) ∧ w.cell? ⟨b, 3, none⟩ = some (.int .i64 g) :=
  ⟨Blk.cell h 0, Blk.cell h 1, Blk.cell h 2, Blk.cell h 3⟩
theorem Box.free {w : World} {b : Nat} {t : TypeId} {k m o g : Int} (h : Box w b t k m o g) :
    w.frozen? ⟨b, 0, none⟩ = false ∧ w.frozen? ⟨b, 1, none⟩ = false ∧ w.frozen? ⟨b, 2, none⟩ = false ∧ w.frozen? ⟨b, 3, none⟩ = false :=
  ⟨Blk.frozen h 0, Blk.frozen h 1, Blk.frozen h 2, Blk.frozen h 3⟩
theorem Box.below {w w' : World} {b : Nat} {t : TypeId} {k m o g : Int} (h : Box w b t k m o g) (hb : Below w.heap.size w w') : Box w' b t k m o g := Blk.below h hb (Blk.lt h)
theorem Box.new (w : World) (t : TypeId) (k m o g : Int) : Box (w.alloc (.cells #[.int .i64 k, .int .i64 m, .int .i64 o, .int .i64 g] t)) w.heap.size t k m o g := Blk.new w t _
end Go.Proofs.YtlpljedacohngaaGreatDoor
end
