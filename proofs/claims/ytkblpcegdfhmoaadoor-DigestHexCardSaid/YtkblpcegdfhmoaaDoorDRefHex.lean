/-
  The document's own Hex. No condition.
-/
import Derived.Test.YtkblpcegdfhmoaaDoorDUnhex
namespace Go.Proofs.YtkblpcegdfhmoaaDoor
open Go.RowKit

def strBA (l : List B8) : ByteArray := ⟨(l.map UInt8.ofBitVec).toArray⟩
theorem strOf_BA (l : List B8) : strOf l = .string (strBA l) := rfl
theorem sign_cut : ∀ q, q < 16 → (⟨#[48, 49, 50, 51, 52, 53, 54, 55, 56, 57, 97, 98, 99, 100, 101, 102]⟩ : ByteArray).extract q (q + 1) = strBA [sign q] := by decide +kernel
theorem strBA_size (l : List B8) : (strBA l).size = l.length := by simp [strBA, ByteArray.size]
theorem strBA_append (a b : List B8) : strBA a ++ strBA b = strBA (a ++ b) := by
  unfold strBA
  rw [List.map_append]
  apply ByteArray.ext
  simp

set_option maxHeartbeats 400000 in
set_option maxRecDepth 100000 in
theorem refhex_any (w : World) (d : List B8) (hd : d.length = 32) : Calls Tryd.prog 23 #[.agg (Vb d).toArray] w fun e w' => e = .returned (strOf (hexS d 32)) ∧ Below w.heap.size w w' := by
  go_enter Tryd.func23, Tryd.ntmps23
  go_wp2_with fail
  go_loopw [4, 3] (fun i v wr => ∃ k : Nat, k ≤ 32 ∧ i = .int .i64 k ∧ v = .string (strBA (hexS d k)) ∧ Blk wr w.heap.size 31 (Vb d) ∧ Below w.heap.size w wr) (fun i _ _ => 32 - (intOf i).toNat)
  case atStart => exact ⟨0, by omega, rfl, rfl, Blk.new w 31 (Vb d), (Below.refl _ _).alloc (Nat.le_refl _) _⟩
  case round =>
    obtain ⟨k, hk, rfl, rfl, hblk, hbel⟩ := hrel
    by_cases hlt : k < 32
    · have hx := hblk.cell k
      rw [Vb_get, List.getElem?_eq_getElem (by omega)] at hx
      have hh : hexS d (k + 1) = hexS d k ++ [sign (d[k].toNat / 16), sign (d[k].toNat % 16)] := by
        rw [hexS, List.getD_eq_getElem?_getD, List.getElem?_eq_getElem (by omega)]
        rfl
      generalize d[k] = b at hx hh
      have hx2 : wr.cell? ⟨w.heap.size, k, none⟩ = some (.int .u8 (nb b)) := hx
      have hb := b.isLt
      obtain ⟨q, hq⟩ : ∃ q, q = b.toNat / 16 := ⟨_, rfl⟩
      obtain ⟨r, hr⟩ : ∃ r, r = b.toNat % 16 := ⟨_, rfl⟩
      rw [← hq, ← hr] at hh
      have hnb := nb_nat b
      have h1 : nb b / 16 = (q : Int) := by omega
      have h2 : nb b % 16 = (r : Int) := by omega
      have hq16 : q < 16 := by omega
      have hr16 : r < 16 := by omega
      have hnn := nb_bound b
      have ha1 : ∀ W, (Op.stringOp .add (strBA (hexS d k)) (ByteArray.extract ⟨#[48, 49, 50, 51, 52, 53, 54, 55, 56, 57, 97, 98, 99, 100, 101, 102]⟩ q (q + 1))).run Tryd.prog W = .ok (.string (strBA (hexS d k ++ [sign q]))) W := fun W => by
        rw [sign_cut q hq16, run_string_add_sum _ _ _ (by rw [strBA_size, strBA_size, hexS_length]; simp; omega), strBA_append]
      have ha2 : ∀ W, (Op.stringOp .add (strBA (hexS d k ++ [sign q])) (ByteArray.extract ⟨#[48, 49, 50, 51, 52, 53, 54, 55, 56, 57, 97, 98, 99, 100, 101, 102]⟩ r (r + 1))).run Tryd.prog W = .ok (.string (strBA (hexS d k ++ [sign q] ++ [sign r]))) W := fun W => by
        rw [sign_cut r hr16, run_string_add_sum _ _ _ (by rw [strBA_size, strBA_size, List.length_append, hexS_length]; simp; omega), strBA_append]
      have HO := Lib.hid (And.intro hblk (And.intro hbel hh))
      clear hblk hbel hh hx hnb hq hr hb
      go_wp2_with fail
      go_region
      all_goals go_wp2_with fail
      go_roundw
      case rel => exact ⟨k + 1, by omega, by go_num, by rw [HO.out.2.2], HO.out.1.drew, HO.out.2.1.drew⟩
      case measure => simp [intOf]; omega
    · obtain rfl : k = 32 := by omega
      go_wp2_with fail
      go_ret
      exact ⟨rfl, hbel⟩

end Go.Proofs.YtkblpcegdfhmoaaDoor
