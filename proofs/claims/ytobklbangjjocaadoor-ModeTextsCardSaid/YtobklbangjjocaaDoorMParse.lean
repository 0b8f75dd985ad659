/-
  The library's inner ParseUint to the base 8, of four bytes, to 12 bits. Condition: the text has four bytes.
-/
import Derived.Test.YtobklbangjjocaaDoorMSmall
import Derived.Lib.Strings
import Derived.Lib.Walk
import Derived.Lib.ConvBytes
import Derived.Lib.ParseIntBMem
import Derived.Laws.Strings3
import Derived.Laws.Closers25
import Derived.Laws.Closers25b
import Derived.BigCall
import Derived.BigGuard
set_option linter.unusedSimpArgs false
set_option linter.unusedVariables false
set_option maxRecDepth 100000
namespace Go.Proofs.YtobklbangjjocaaDoor
open Go.RowKit

theorem lower_any (w : World) (c : Int) : Calls Tryd.prog 40 #[.int .u8 c] w fun e w' => e = .returned (.int .u8 (bits .or .u8 c 32)) ∧ w = w' := by
  go_enter Tryd.func40, Tryd.ntmps40
  go_wp2_with fail
  go_ret
  exact ⟨rfl, rfl⟩
/-- What the library's inner ParseUint tells. -/
def pTup : Option Nat → Value
  | some n => .tuple #[.int .u64 (n : Int), .nilIface]
  | none => .tuple #[.int .u64 0, .iface 67 (.int .i64 2)]
theorem pow8 {k : Nat} (h : k < 4) : 8 ^ k ≤ 512 := Nat.pow_le_pow_right (i := k) (j := 3) (by omega : 0 < 8) (by omega)
set_option maxHeartbeats 16000000 in
set_option maxRecDepth 100000 in
theorem inner_any (t : ByteArray) (h4 : t.size = 4) (w : World) :
    Calls Tryd.prog 34 #[.string t, .int .i64 8, .int .i64 12] w fun e w' => e = .returned (pTup (parse8 0 t.data.toList)) ∧ w' = Lib.bytesWorld w 5 t := by
  have hemp : t.toList.isEmpty = false := by
    rw [← decide_eq_emptyBytes]
    exact decide_eq_false (fun h => by rw [h] at h4; exact absurd h4 (by decide))
  have hcv := Lib.run_convert_string_bytes (P := Tryd.prog) w 9 64 5 t (u := .string) Tryd.underlying9 Tryd.underlying64 Tryd.underlying5
  have hB : ∀ j, j < t.size → (Lib.bytesWorld w 5 t).cell? ⟨w.heap.size, j, none⟩ = some (.int .u8 (t.data.toList.getD j 0).toNat) := fun j hj => Lib.bytesWorld_cell w 5 t j hj
  obtain ⟨W1, hW1⟩ : ∃ W1, W1 = Lib.bytesWorld w 5 t := ⟨_, rfl⟩
  rw [← hW1] at hcv hB ⊢
  clear hW1
  obtain ⟨bs, hL⟩ : ∃ bs, bs = t.data.toList := ⟨_, rfl⟩
  have hLn : bs.length = t.size := by rw [hL, Lib.size_eq]
  rw [← hL] at hB ⊢
  clear hL
  have h4' : t.size ≤ 4 := by omega
  have H4 := Lib.hid h4
  clear h4
  have hmv : IntKind.u64.wrap (IntKind.u64.wrap 4096 - 1) = 4095 := by
    rw [IntKind.wrap_u64, IntKind.wrap_u64]
    decide
  go_enter Tryd.func34, Tryd.ntmps34
  go_wp2
  go_loop [12, 13, 101] (fun vu vn vi => ∃ (k acc : Nat) (a : Int), vu = .bool false ∧ vn = .int .u64 a ∧ vi = .int .i64 k ∧ k ≤ t.size ∧ Hid (a = (acc : Int) ∧ acc < 8 ^ k ∧ parse8 0 bs = parse8 acc (bs.drop k)))
    (fun _ _ vi => t.size - (intOf vi).toNat)
  case atStart => exact ⟨0, 0, 0, rfl, rfl, rfl, by omega, Lib.hid ⟨rfl, by decide, rfl⟩⟩
  case round =>
    obtain ⟨k, acc, a, rfl, rfl, rfl, hk, hh⟩ := hrel
    obtain ⟨ha, hacc, hdec⟩ := hh.out
    clear hh
    by_cases hkn : k < t.size
    · have hp := pow8 (k := k) (by omega)
      have a0 : 0 ≤ a := by omega
      have a1 : a ≤ 511 := by omega
      have hc := hB k hkn
      have hdrop : bs.drop k = bs[k]'(by omega) :: bs.drop (k + 1) := List.drop_eq_getElem_cons (by omega)
      have hget : bs.getD k 0 = bs[k]'(by omega) := by simp [List.getD, List.getElem?_eq_getElem (show k < bs.length by omega)]
      rw [hdrop] at hdec
      rw [hget] at hc
      generalize bs[k]'(by omega) = c at hc hdec
      have hc256 : c.toNat < 256 := c.toNat_lt
      clear hB hdrop hget hp
      by_cases hdig : 48 ≤ c.toNat ∧ c.toNat ≤ 55
      · obtain ⟨hd0, hd1⟩ := hdig
        have hF : parse8 acc (c :: bs.drop (k + 1)) = parse8 (acc * 8 + (c.toNat - 48)) (bs.drop (k + 1)) := by simp [parse8, hd0, hd1]
        have HN : Hid (a * 8 + ((c.toNat : Int) - 48) = ((acc * 8 + (c.toNat - 48) : Nat) : Int) ∧ acc * 8 + (c.toNat - 48) < 8 ^ (k + 1) ∧ parse8 0 bs = parse8 (acc * 8 + (c.toNat - 48)) (bs.drop (k + 1))) := Lib.hid ⟨by omega, by rw [Nat.pow_succ]; omega, hdec.trans hF⟩
        have iov : a * 8 + ((c.toNat : Int) - 48) ≤ 4095 := by omega
        clear hacc hF hdec ha
        go_wp2
        refine ⟨⟨k + 1, acc * 8 + (c.toNat - 48), a * 8 + ((c.toNat : Int) - 48), rfl, (by first | rfl | (congr 1; omega)), (by first | rfl | (congr 1; omega)), by omega, HN⟩, by simp [intOf]; omega⟩
      · have hF : parse8 acc (c :: bs.drop (k + 1)) = none := by simp [parse8]; omega
        rw [hF] at hdec
        have HD := Lib.hid hdec
        clear hacc hF ha hdec
        by_cases h89 : c.toNat = 56 ∨ c.toNat = 57
        · rcases h89 with h8 | h8
          all_goals
            rw [h8] at hc
            clear hdig hc256 h8
            go_wp2
            go_ret2
            exact ⟨by rw [HD.out]; rfl, rfl⟩
        · have hn : c.toNat < 48 ∨ 57 < c.toNat := by omega
          have hv0 := bits_lo_u8 .or (c.toNat : Int) 32
          have hv1 := bits_hi_u8 .or (c.toNat : Int) 32
          have hu0 := bits_lo_u8 .or 95 32
          have hu1 := bits_hi_u8 .or 95 32
          clear hdig h89
          rcases hn with hn | hn
          all_goals
            go_wp2_with (go_at_call 40; refine (lower_any _ _).mono ?_; rintro e w' ⟨rfl, rfl⟩)
            all_goals go_ret2
            all_goals exact ⟨by rw [HD.out]; rfl, rfl⟩
    · have hkk : k = t.size := by omega
      subst hkk
      have hF : parse8 acc (bs.drop t.size) = some acc := by rw [List.drop_eq_nil_of_le (by omega)]; rfl
      rw [hF] at hdec
      subst ha
      have HD := Lib.hid hdec
      clear hacc hF hdec
      go_wp2
      go_ret2
      exact ⟨by rw [HD.out]; rfl, rfl⟩
end Go.Proofs.YtobklbangjjocaaDoor
