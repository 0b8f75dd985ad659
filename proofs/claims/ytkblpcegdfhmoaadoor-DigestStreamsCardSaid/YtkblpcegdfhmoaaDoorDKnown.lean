/-
  The law's own 'known': the document's two examples hold. Condition: the constants lie in their variable.
-/
import Derived.Test.YtkblpcegdfhmoaaDoorDHex
import Derived.Lib.SlBytesConst
import Derived.Stop.BytesEq
namespace Go.Proofs.YtkblpcegdfhmoaaDoor
open Go.RowKit

theorem strA0 : strOf textA = .string ⟨#[101, 51, 98, 48, 99, 52, 52, 50, 57, 56, 102, 99, 49, 99, 49, 52, 57, 97, 102, 98, 102, 52, 99, 56, 57, 57, 54, 102, 98, 57, 50, 52, 50, 55, 97, 101, 52, 49, 101, 52, 54, 52, 57, 98, 57, 51, 52, 99, 97, 52, 57, 53, 57, 57, 49, 98, 55, 56, 53, 50, 98, 56, 53, 53]⟩ := by kernel_rfl
theorem strB0 : strOf textB = .string ⟨#[98, 97, 55, 56, 49, 54, 98, 102, 56, 102, 48, 49, 99, 102, 101, 97, 52, 49, 52, 49, 52, 48, 100, 101, 53, 100, 97, 101, 50, 50, 50, 51, 98, 48, 48, 51, 54, 49, 97, 51, 57, 54, 49, 55, 55, 97, 57, 99, 98, 52, 49, 48, 102, 102, 54, 49, 102, 50, 48, 48, 49, 53, 97, 100]⟩ := by kernel_rfl
theorem strA : strOf (hexS (sha Ks []) 32) = .string ⟨#[101, 51, 98, 48, 99, 52, 52, 50, 57, 56, 102, 99, 49, 99, 49, 52, 57, 97, 102, 98, 102, 52, 99, 56, 57, 57, 54, 102, 98, 57, 50, 52, 50, 55, 97, 101, 52, 49, 101, 52, 54, 52, 57, 98, 57, 51, 52, 99, 97, 52, 57, 53, 57, 57, 49, 98, 55, 56, 53, 50, 98, 56, 53, 53]⟩ := by
  rw [known_none]
  exact strA0
theorem strB : strOf (hexS (sha Ks [97#8, 98#8, 99#8]) 32) = .string ⟨#[98, 97, 55, 56, 49, 54, 98, 102, 56, 102, 48, 49, 99, 102, 101, 97, 52, 49, 52, 49, 52, 48, 100, 101, 53, 100, 97, 101, 50, 50, 50, 51, 98, 48, 48, 51, 54, 49, 97, 51, 57, 54, 49, 55, 55, 97, 57, 99, 98, 52, 49, 48, 102, 102, 54, 49, 102, 50, 48, 48, 49, 53, 97, 100]⟩ := by
  have h : hexS (sha Ks [97#8, 98#8, 99#8]) 32 = textB := known_abc
  rw [h]
  exact strB0

theorem Vb_cells (xs : List B8) : Vb xs = (xs.map UInt8.ofBitVec).map Extern.Stop.cell := by
  unfold Vb
  rw [List.map_map]
  apply List.map_congr_left
  intro x _
  unfold nb
  rfl
/-- '==' of two digests. -/
theorem eql32 (xs ys : List B8) (hx : xs.length = 32) (hy : ys.length = 32) (W : World) : (Op.equalIn 10000 31 (.agg (Vb xs).toArray) (.agg (Vb ys).toArray)).run Tryd.prog W = .ok (decide (xs = ys)) W := by
  rw [Vb_cells, Vb_cells, run_equalIn_bytes W 9998 31 5 32 Tryd.underlying31 Tryd.underlying5 (fun w => by kernel_rfl) _ _ (by simpa using hx) (by simpa using hy)]
  congr 1
  rw [Bool.eq_iff_iff, beq_iff_eq, decide_eq_true_eq]
  exact List.map_inj_right (fun a b h => by injection h)

theorem of_none (ks : List B32) (w : World) (hK : Roots ks w) : Calls Tryd.prog 13 #[.slice none 0 0] w fun e w' => e = .returned (.agg (Vb (sha ks [])).toArray) ∧ Below w.heap.size w w' :=
  of_any ks w 0 none 0 0 [] hK ⟨rfl, fun h => absurd h (by omega)⟩ (by omega) (by simp)

theorem abc_txts (w : World) (p : Nat) (hp : w.heap.size + 3 ≤ p) :
    Txts (((w.alloc (.cells #[.int .u8 97] 5 (1, 2))).alloc (.cells #[.int .u8 98, .int .u8 99] 5 (2, 3))).alloc (.cells #[.slice (some ⟨w.heap.size, 0, none⟩) 1 1, .slice (some ⟨w.heap.size + 1, 0, none⟩) 2 2] 23)) p (some ⟨w.heap.size + 2, 0, none⟩) 2 [[97], [98, 99]] := by
  have b0 : (((w.alloc (.cells #[.int .u8 97] 5 (1, 2))).alloc (.cells #[.int .u8 98, .int .u8 99] 5 (2, 3))).alloc (.cells #[.slice (some ⟨w.heap.size, 0, none⟩) 1 1, .slice (some ⟨w.heap.size + 1, 0, none⟩) 2 2] 23)).heap[w.heap.size]? = some (.cells #[.int .u8 97] 5 (1, 2)) :=
    (Below.heap_alloc _ _ _ (by simp; omega)).trans ((Below.heap_alloc _ _ _ (by simp)).trans (heap_alloc_new w _))
  have b1 : (((w.alloc (.cells #[.int .u8 97] 5 (1, 2))).alloc (.cells #[.int .u8 98, .int .u8 99] 5 (2, 3))).alloc (.cells #[.slice (some ⟨w.heap.size, 0, none⟩) 1 1, .slice (some ⟨w.heap.size + 1, 0, none⟩) 2 2] 23)).heap[w.heap.size + 1]? = some (.cells #[.int .u8 98, .int .u8 99] 5 (2, 3)) := by
    refine (Below.heap_alloc _ _ _ (by simp)).trans ?_
    have h := heap_alloc_new (w.alloc (.cells #[.int .u8 97] 5 (1, 2))) (.cells #[.int .u8 98, .int .u8 99] 5 (2, 3))
    rw [World.size_alloc] at h
    exact h
  have b2 : (((w.alloc (.cells #[.int .u8 97] 5 (1, 2))).alloc (.cells #[.int .u8 98, .int .u8 99] 5 (2, 3))).alloc (.cells #[.slice (some ⟨w.heap.size, 0, none⟩) 1 1, .slice (some ⟨w.heap.size + 1, 0, none⟩) 2 2] 23)).heap[w.heap.size + 2]? = some (.cells #[.slice (some ⟨w.heap.size, 0, none⟩) 1 1, .slice (some ⟨w.heap.size + 1, 0, none⟩) 2 2] 23 (0, 0)) := by
    have h := heap_alloc_new ((w.alloc (.cells #[.int .u8 97] 5 (1, 2))).alloc (.cells #[.int .u8 98, .int .u8 99] 5 (2, 3))) (.cells #[.slice (some ⟨w.heap.size, 0, none⟩) 1 1, .slice (some ⟨w.heap.size + 1, 0, none⟩) 2 2] 23)
    rw [World.size_alloc, World.size_alloc] at h
    exact h
  have e97 : Value.int .u8 97 = .int .u8 (nb 97) := by unfold nb; rfl
  have e98 : Value.int .u8 98 = .int .u8 (nb 98) := by unfold nb; rfl
  have e99 : Value.int .u8 99 = .int .u8 (nb 99) := by unfold nb; rfl
  refine ⟨rfl, fun _ => ⟨w.heap.size + 2, 0, rfl, by omega, fun i x hx => ?_⟩⟩
  match i, hx with
  | 0, hx =>
    simp only [List.getElem?_cons_zero, Option.some.injEq] at hx
    subst hx
    refine ⟨_, 1, 1, cell_of_row _ _ 0 _ _ _ b2, ⟨rfl, Nat.le_refl _, by unfold maxLen; omega, fun _ => ⟨w.heap.size, 0, rfl, by omega, fun j hj => ?_⟩⟩⟩
    obtain rfl : j = 0 := by omega
    rw [Nat.zero_add, cell_of_row _ _ _ _ _ _ b0]
    exact congrArg some e97
  | 1, hx =>
    simp only [List.getElem?_cons_succ, List.getElem?_cons_zero, Option.some.injEq] at hx
    subst hx
    refine ⟨_, 2, 2, cell_of_row _ _ 1 _ _ _ b2, ⟨rfl, Nat.le_refl _, by unfold maxLen; omega, fun _ => ⟨w.heap.size + 1, 0, rfl, by omega, fun j hj => ?_⟩⟩⟩
    rw [Nat.zero_add, cell_of_row _ _ _ _ _ _ b1]
    match j, hj with
    | 0, _ => exact congrArg some e98
    | 1, _ => exact congrArg some e99

set_option maxRecDepth 100000 in
theorem known_walk (w : World) (hK : Roots Ks w) : Calls Tryd.prog 12 #[] w fun e w' => e = .returned (.bool true) ∧ Below w.heap.size w w' := by
  have hpos := hK.pos
  go_enter Tryd.func12, Tryd.ntmps12
  go_wp2_with fail
  refine (of_none Ks w hK).mono ?_
  rintro e w1 ⟨rfl, h1⟩
  have HK1 := Lib.hid (hK.below h1 hpos)
  have H1 := Lib.hid h1
  clear hK h1
  go_wp2_with fail
  refine (hex_any w1 _ (sha_length _ _)).mono ?_
  rw [strA]
  rintro e w2 ⟨rfl, h2⟩
  have HK2 := Lib.hid (HK1.out.below h2 (by have := H1.out.size; omega))
  have H2 := Lib.hid (H1.out.trans (h2.mono H1.out.size))
  clear h2
  have hc1 := Lib.run_convert_bytes_const (P := Tryd.prog) w2 23 5 #[.int .u8 97] 1 1 Tryd.underlying23 Tryd.underlying5
  have hc2 := Lib.run_convert_bytes_const (P := Tryd.prog) (w2.alloc (.cells #[.int .u8 97] 5 (1, 2))) 23 5 #[.int .u8 98, .int .u8 99] 2 2 Tryd.underlying23 Tryd.underlying5
  simp only [List.size_toArray, List.length_cons, List.length_nil, World.size_alloc, Nat.zero_add, Nat.reduceAdd] at hc1 hc2
  go_wp2_with fail
  have hs2 := H2.out.size
  have hbw : Below w2.heap.size w2 (((w2.alloc (.cells #[.int .u8 97] 5 (1, 2))).alloc (.cells #[.int .u8 98, .int .u8 99] 5 (2, 3))).alloc (.cells #[.slice (some ⟨w2.heap.size, 0, none⟩) 1 1, .slice (some ⟨w2.heap.size + 1, 0, none⟩) 2 2] 23)) := (((Below.refl _ _).alloc (Nat.le_refl _) _).alloc (by simp) _).alloc (by rw [World.size_alloc, World.size_alloc]; omega) _
  refine (of_any Ks _ (w2.heap.size + 3) _ 2 2 [[97], [98, 99]] (HK2.out.below hbw HK2.out.pos) (abc_txts w2 _ (Nat.le_refl _)) (by omega) (by decide)).mono ?_
  rintro e w3 ⟨rfl, h3⟩
  have H3 := Lib.hid (H2.out.trans ((hbw.trans (h3.mono hbw.size)).mono hs2))
  clear h3 hbw
  go_wp2_with fail
  refine (hex_any w3 _ (sha_length _ _)).mono ?_
  rw [strB]
  rintro e w4 ⟨rfl, h4⟩
  have H4 := Lib.hid (H3.out.trans (h4.mono H3.out.size))
  clear h4
  go_wp2_with fail
  go_ret
  exact ⟨rfl, H4.out⟩

end Go.Proofs.YtkblpcegdfhmoaaDoor
