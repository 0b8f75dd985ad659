/-
  Short: the first eight bytes of the framed digest as a number. Conditions: those of Framed.
-/
import Derived.Test.YtkblpcegdfhmoaaDoorDFrames
namespace Go.Proofs.YtkblpcegdfhmoaaDoor
open Go.RowKit

/-- The number of the first k bytes, the highest first. -/
def beN (d : List B8) : Nat → Nat
  | 0 => 0
  | k + 1 => 256 * beN d k + (d.getD k 0).toNat
theorem beN_small (d : List B8) : ∀ k, beN d k < 256 ^ k
  | 0 => by simp [beN]
  | k + 1 => by
    have h1 := beN_small d k
    have h2 := (d.getD k 0).isLt
    simp only [beN]
    rw [Nat.pow_succ]
    omega
theorem beN_7 (d : List B8) (k : Nat) (hk : k < 8) : beN d k < 72057594037927936 :=
  Nat.lt_of_lt_of_le (beN_small d k) (by
    have := Nat.pow_le_pow_right (n := 256) (by omega) (show k ≤ 7 by omega)
    exact Nat.le_trans this (by decide))
theorem or_u64 (n b : Nat) (hn : n < 72057594037927936) (hb : b < 256) : bits .or .u64 ((n : Int) * 256) (b : Int) = ((256 * n + b : Nat) : Int) := by
  have e1 : BitVec.ofInt 64 ((n : Int) * 256) = BitVec.ofNat 64 (n * 256) := by
    rw [show (n : Int) * 256 = ((n * 256 : Nat) : Int) by simp]
    exact BitVec.ofInt_natCast ..
  have e2 : BitVec.ofInt 64 (b : Int) = BitVec.ofNat 64 b := BitVec.ofInt_natCast ..
  have e3 : (BitVec.ofNat 64 (n * 256) ||| BitVec.ofNat 64 b).toNat = 256 * n + b := by
    rw [BitVec.toNat_or, BitVec.toNat_ofNat, BitVec.toNat_ofNat, Nat.mod_eq_of_lt (by omega), Nat.mod_eq_of_lt (by omega), Nat.mul_comm n]
    exact (Nat.two_pow_add_eq_or_of_lt (i := 8) (b := b) (by omega) n).symm
  unfold bits
  simp only [IntKind.bits, e1, e2]
  exact (congrArg (fun x : Nat => IntKind.u64.wrap (x : Int)) e3).trans (IntWalk.u64_in ((256 * n + b : Nat) : Int) ⟨by omega, by omega⟩)

set_option maxHeartbeats 1000000 in
set_option maxRecDepth 100000 in
theorem short_any (ks : List B32) (w : World) (L : Option Addr) (n c : Nat) (xs : List (List B8)) (hK : Roots ks w) (ht : Txts w w.heap.size L n xs) (hn : n ≤ 13) (hsm : ∀ x ∈ xs, x.length ≤ 300) :
    Calls Tryd.prog 15 #[.slice L n c] w fun e w' => e = .returned (.int .u64 (beN (sha ks (framesOf xs)) 8 : Nat)) ∧ Below w.heap.size w w' := by
  go_enter Tryd.func15, Tryd.ntmps15
  go_wp2_with fail
  refine (framed_any ks w L n c xs hK ht hn hsm).mono ?_
  rintro e w1 ⟨rfl, hb⟩
  have HB := Lib.hid hb
  clear hb ht hK
  have hdl := sha_length ks (framesOf xs)
  obtain ⟨d, hd⟩ : ∃ d, d = sha ks (framesOf xs) := ⟨_, rfl⟩
  rw [← hd] at hdl ⊢
  have HDE := Lib.hid hd
  clear hd
  have HD := Lib.hid hdl
  clear hdl
  go_wp2_with (refine wpList_store_blk rfl 31 (.tmp 3) (.tmp 8) rfl w1.heap.size 0 (Vb d) rfl rfl (Blk.new w1 31 (List.replicate 32 (.int .u8 0))) (by simp [Vb_length, HD.out]) (info31.trans (by simp [Vb_length, HD.out])) (Vb_oneCell _) ?_; intro w2 hA hO)
  rw [over_whole (by simp [Vb_length, HD.out])] at hA
  have hB2 : Below w.heap.size w w2 := HB.out.trans ((((Below.refl _ _).alloc (Nat.le_refl _) _).trans (hO.below (B := w1.heap.size) (by simp) (by simp))).mono HB.out.size)
  have HA := Lib.hid (And.intro hA hB2)
  clear hA hO hB2
  go_loopw [4, 11] (fun nv iv wr => ∃ k : Nat, k ≤ 8 ∧ iv = .int .i64 k ∧ nv = .int .u64 (beN d k : Nat) ∧ wr = w2) (fun _ iv _ => 8 - (intOf iv).toNat)
  case atStart => exact ⟨0, by omega, rfl, rfl, rfl⟩
  case round =>
    obtain ⟨k, hk, rfl, rfl, rfl⟩ := hrel
    by_cases hk8 : k < 8
    · have hc : wr.cell? ⟨w1.heap.size, k, none⟩ = some (.int .u8 (nb (d.getD k 0))) := by
        rw [HA.out.1.cell, Vb_get, List.getD_eq_getElem?_getD, List.getElem?_eq_getElem (by rw [HD.out]; omega)]
        rfl
      have hs := beN_7 d k hk8
      have hb := (d.getD k 0).isLt
      have HN := Lib.hid (show beN d (k + 1) = 256 * beN d k + (d.getD k 0).toNat from rfl)
      have ho := or_u64 (beN d k) (d.getD k 0).toNat hs hb
      unfold nb at hc
      generalize beN d k = m at *
      generalize (d.getD k 0).toNat = b at *
      have hki : (k : Int) < 8 := by omega
      have hk0 : (0 : Int) ≤ (k : Int) := by omega
      go_wp2_with fail
      go_roundw
      case rel => exact ⟨k + 1, by omega, by go_num, by rw [HN.out]; go_num, trivial⟩
      case measure => simp [intOf]; omega
    · obtain rfl : k = 8 := by omega
      go_wp2_with fail
      go_ret
      exact ⟨by rw [HDE.out]; rfl, HA.out.2⟩

end Go.Proofs.YtkblpcegdfhmoaaDoor
