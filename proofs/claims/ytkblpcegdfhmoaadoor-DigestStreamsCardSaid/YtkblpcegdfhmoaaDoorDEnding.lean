/-
  ending: what comes behind so many bytes. Condition: at most 2^50 bytes.
-/
import Derived.Test.YtkblpcegdfhmoaaDoorDSmall
import Derived.WalkSmall
namespace Go.Proofs.YtkblpcegdfhmoaaDoor
open Go.RowKit

/-- How many bytes 0 come behind n bytes and a byte 128. -/
def gap (n : Nat) : Nat := (119 - n % 64) % 64
/-- The first i bytes of the count of bits. -/
def count8 (n : Nat) : Nat → List B8
  | 0 => []
  | i + 1 => count8 n i ++ [BitVec.ofNat 8 (n * 8 / 2 ^ (56 - 8 * i))]
theorem count8_length (n : Nat) : ∀ i, (count8 n i).length = i
  | 0 => rfl
  | i + 1 => by simp [count8, count8_length n i]
def pad (n : Nat) : List B8 := 128#8 :: List.replicate (gap n) 0#8
def endB (n : Nat) : List B8 := pad n ++ count8 n 8
theorem pad_length (n : Nat) : (pad n).length = 1 + gap n := by simp [pad]; omega
theorem gap_lt (n : Nat) : gap n < 64 := Nat.mod_lt _ (by omega)
theorem endB_length (n : Nat) : (endB n).length = 9 + gap n := by simp [endB, pad_length, count8_length]; omega

theorem wpList_make_bytes {w : World} {ops : Array Oper} {rest : List Oper} {o : Oper} {a : Act} {Q : Exit → Act → World → Prop}
    (hg : o.guard = none) (x y : Operand) (hop : o.op = Op.makeSlice 23 x y) (l c : Nat) (kx ky : IntKind) (X Y : Int) (hx : a.eval x = .int kx X) (hy : a.eval y = .int ky Y) (hX : X = l) (hY : Y = c) (hlc : l ≤ c) (hc : c ≤ 281474976710656)
    (hK : wpList Tryd.prog ops Q rest (a.put o.dst (.slice (some ⟨w.heap.size, 0, none⟩) l c)) (w.alloc (.cells (List.replicate c (.int .u8 0)).toArray 5))) :
    wpList Tryd.prog ops Q (o :: rest) a w := by
  subst hX hY
  obtain ⟨i0, hi, hz0, hz1, hz2⟩ := info_parts (show (Tryd.prog.info? 5).map (fun i => (i.zero, i.size, i.bytes)) = some (some (.int .u8 0), 1, 1) by kernel_rfl)
  have hr := run_make (P := Tryd.prog) w 23 5 i0 (.int .u8 0) Tryd.underlying23 hi hz0 kx ky l c (by omega) (by omega) (by rw [hz2]; omega) (by omega)
  have hm : madeCells (Value.int .u8 0).cells ((c : Int).toNat * i0.size) = (List.replicate c (.int .u8 0)).toArray := by
    rw [hz1]
    simp only [madeCells, Value.cells, Int.toNat_natCast, Nat.mul_one]
    apply Array.ext
    · simp
    · intro j h1 h2
      simp [Nat.mod_one]
  rw [hm] at hr
  simp only [Int.toNat_natCast] at hr
  refine wpList_plain hg fun K hK' => ?_
  unfold Oper.wp execOp
  simp only [hop, hx, hy, Sem.run_bind, hr, Result.andThen_ok, Sem.run_pure]
  exact hK' _ _ hK

theorem new_one (w : World) (v : Value) (t : TypeId) : ∀ j u, [v][j]? = some u → (w.alloc (.cells #[v] t)).cell? ((⟨w.heap.size, 0, none⟩ : Addr).add j) = some u := by
  intro j u hj
  match j, hj with
  | 0, hj => simp at hj; subst hj; simp [Addr.add]
  | j + 1, hj => simp at hj
theorem one_one (k : IntKind) (n : Int) : ∀ u ∈ [Value.int k n], u.oneCell' = true := by
  intro u hu
  simp at hu
  subst hu
  rfl
theorem count_val (n i : Nat) : (n : Int) * 8 / 2 ^ (56 - 8 * i) % 256 = nb (BitVec.ofNat 8 (n * 8 / 2 ^ (56 - 8 * i))) := by
  unfold nb
  rw [BitVec.toNat_ofNat, Int.natCast_emod, Int.natCast_ediv, Int.natCast_mul, Int.natCast_pow]
  rfl

theorem owned_of_blk {w : World} {g : Nat} {t : TypeId} {cs : List Value} {B k : Nat} (h : Blk w g t cs) (hB : B ≤ g) (hk : k ≤ cs.length) (hm : cs.length ≤ maxLen) : w.ownsRow B t 1 (.slice (some ⟨g, 0, none⟩) k cs.length) k (cs.take k) :=
  ⟨by simp; omega, .inr ⟨g, cs.length, cs.toArray, rfl, hB, h, hk, hm, by simp, by simp⟩⟩

set_option maxHeartbeats 1000000 in
set_option maxRecDepth 100000 in
theorem ending_any (w : World) (n : Nat) (hn : n ≤ 1125899906842624) : Calls Tryd.prog 28 #[.int .i64 n] w fun e w' => ∃ g c, e = .returned (.slice (some ⟨g, 0, none⟩) (endB n).length c) ∧ w'.ownsRow w.heap.size 5 1 (.slice (some ⟨g, 0, none⟩) (endB n).length c) (endB n).length (Vb (endB n)) ∧ Below w.heap.size w w' := by
  obtain ⟨i0, hi, hz0, hz1, hz2⟩ := info_parts (show (Tryd.prog.info? 5).map (fun i => (i.zero, i.size, i.bytes)) = some (some (.int .u8 0), 1, 1) by kernel_rfl)
  have hgl := gap_lt n
  have hge : (119 - (n : Int) % 64) % 64 = (gap n : Int) := by unfold gap; omega
  go_enter Tryd.func28, Tryd.ntmps28
  go_wp2_with (first
    | (refine wpList_make_bytes rfl (.tmp 12) (.tmp 15) rfl (1 + gap n) (9 + gap n) .i64 .i64 _ _ rfl rfl (by omega) (by omega) (by omega) (by omega) ?_)
    | (refine wpList_store_one rfl 5 (.tmp 18) (.const (.int .u8 128)) rfl w.heap.size 0 .u8 128 rfl rfl (Blk.new w 5 (List.replicate (9 + gap n) (.int .u8 0))) (by rw [List.length_replicate]; omega) info5 ?_; intro w1 h1 o1))
  have hown : w1.ownsRow w.heap.size 5 1 (.slice (some ⟨w.heap.size, 0, none⟩) (1 + gap n) (9 + gap n)) (1 + gap n) (Vb (pad n)) := by
    have hlen : ((List.replicate (9 + gap n) (Value.int .u8 0)).set 0 (.int .u8 128)).length = 9 + gap n := by rw [List.length_set, List.length_replicate]
    have h := owned_of_blk (B := w.heap.size) (k := 1 + gap n) h1 (Nat.le_refl _) (by rw [hlen]; omega) (by rw [hlen]; unfold maxLen; omega)
    have e : ((List.replicate (9 + gap n) (Value.int .u8 0)).set 0 (.int .u8 128)).take (1 + gap n) = Vb (pad n) := by
      have e1 : 9 + gap n = (8 + gap n) + 1 := by omega
      rw [e1, List.replicate_succ, List.set_cons_zero, show 1 + gap n = gap n + 1 by omega, List.take_succ_cons, List.take_replicate, Nat.min_eq_left (by omega)]
      simp only [pad, Vb, List.map_cons, List.map_replicate]
      unfold nb
      rfl
    rw [e, hlen] at h
    exact h
  have hbel : Below w.heap.size w w1 := ((Below.refl _ _).alloc (Nat.le_refl _) _).trans (o1.below (B := w.heap.size) (by simp) (by simp))
  clear h1 o1
  go_loopw [6, 4] (fun sh v wr => ∃ i : Nat, i ≤ 8 ∧ sh = .int .i64 (56 - 8 * i) ∧ v = .slice (some ⟨w.heap.size, 0, none⟩) (1 + gap n + i) (9 + gap n) ∧ wr.ownsRow w.heap.size 5 1 v (1 + gap n + i) (Vb (pad n ++ count8 n i)) ∧ Below w.heap.size w wr) (fun sh _ _ => (intOf sh + 8).toNat)
  case atStart => exact ⟨0, by omega, rfl, rfl, by simpa [count8] using hown, hbel⟩
  case round =>
    clear hown hbel
    obtain ⟨i, hi8, rfl, rfl, hown, hbel⟩ := hrel
    by_cases hlt : i < 8
    · go_wp2_with (refine wpList_append_fits _ rfl (.tmp 26) (.tmp 31) 23 rfl w.heap.size 5 i0 1 Tryd.underlying23 hi hz1 w.heap.size (1 + gap n + i) (9 + gap n) (Vb (pad n ++ count8 n i)) rfl (hown.alloc _) ⟨wr.heap.size, 0, none⟩ 1 1 [.int .u8 ((n : Int) * 8 / 2 ^ (56 - 8 * i) % 256)] rfl rfl (new_one wr _ 5) (one_one _ _) (by omega) ?_; intro w2 hown2 hgrow2)
      go_roundw
      case rel =>
        refine ⟨i + 1, by omega, by go_num, rfl, ?_, ?_⟩
        · rw [count_val] at hown2
          simpa [count8, Vb, Nat.add_assoc] using hown2
        · exact (hbel.alloc hbel.size _).grown hgrow2 (by have := hbel.size; simp; omega) (by simp)
      case measure => simp [intOf]; omega
    · obtain rfl : i = 8 := by omega
      go_wp2_with fail
      go_ret
      have e : 9 + gap n = 1 + gap n + 8 := by omega
      refine ⟨w.heap.size, 9 + gap n, ?_, ?_, hbel⟩
      · show Ending.returned (.slice (some ⟨w.heap.size, 0, none⟩) (1 + gap n + 8) (9 + gap n)) = _
        rw [endB_length, e]
      · rw [endB_length]
        rw [e] at hown ⊢
        exact hown

end Go.Proofs.YtkblpcegdfhmoaaDoor
