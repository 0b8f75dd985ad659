/-
  A name is told as the plain answer tells it. Condition: the signs lie in their variable.
-/
import Derived.Test.YtmdiajmjmkmnoaaGreatDoorPPure
import Derived.Test.YtmdiajmjmkmnoaaGreatDoorChecked
import Derived.Outline
import Derived.Deep.DeepFit
import Derived.Deep.MidRow
import Derived.Deep.DeepCutAuto
import Derived.Deep.CutBlock
import Derived.Deep.RegionHeld3
import Derived.Deep.RegionLaw
import Derived.Lib.Strings
set_option linter.unusedSimpArgs false
set_option linter.unusedVariables false
set_option maxRecDepth 100000
namespace Go.Proofs.YtmdiajmjmkmnoaaGreatDoor
open Go.RowKit

theorem ps_index (t : ByteArray) (i : Nat) (hi : i < t.size) (W : World) : (Instr.index 9 (.string t) (.int .i64 i)).run Tryz.prog W = .ok (.int .u8 (sgAt t i)) W := by
  rw [run_index_string _ _ _ _ _ Tryz.underlying9]
  rw [dif_pos ⟨by omega, by omega⟩]
  have hj : i < t.data.toList.length := by rw [Array.length_toList]; exact hi
  unfold sgAt
  rw [List.getD_eq_getElem?_getD, List.getElem?_eq_getElem hj]
  simp only [Int.toNat_natCast]
  simp [ByteArray.getElem_eq_getElem_data]
theorem leq_u8 (x y : Int) (W : World) : (binOp .leq 5 (.int .u8 x) (.int .u8 y)).run Tryz.prog W = .ok (.bool (decide (x ≤ y))) W := by
  simp only [binOp]
  rfl
def SgV (W : World) (v : Value) : Prop := v = .pointer (some ⟨0, 0, none⟩) ∧ Signs W
section
variable (ρ : Operand → Value) (d : Option Tmp) (t : TypeId) (p : String) (af : Array Edge) (gd : Option (Nat × Bool)) (W : World)
theorem exec_loadSg (x : Operand) (h : SgV W (ρ x)) :
    (execOp ρ ⟨d, .load 135 x, t, p, af, gd⟩).run Tryz.prog W = .ok (.value (.agg sgCells.toArray)) W := by
  simp only [execOp, h.1, Sem.run_bind, run_loadAt_mid W 0 0 _ sgCells _ h.2.cells Tryz.underlying135 rfl (by kernel_rfl), Result.andThen_ok, Sem.run_pure]
end
theorem sg_index (k : Nat) (hk : k < 5) (W : World) : (Instr.index 135 (.agg sgCells.toArray) (.int .i64 k)).run Tryz.prog W = .ok (.agg #[.int .u8 (sgF k), .int .u8 (sgL k)]) W := by
  rcases (by omega : k = 0 ∨ k = 1 ∨ k = 2 ∨ k = 3 ∨ k = 4) with rfl | rfl | rfl | rfl | rfl <;> kernel_rfl

attribute [local go_sem ↓] exec_loadSg
set_option maxHeartbeats 1000000 in
set_option maxRecDepth 100000 in
theorem name_any (w : World) (hS : Signs w) (t : ByteArray) : Calls Tryz.prog 43 #[.string t] w fun e w' => e = .returned (.bool (nameB t)) ∧ Below w.heap.size w w' := by
  have hL : t.data.toList = t.toList := (ByteArray.toList_eq _).symm
  have HS := Lib.hid hS
  have HN : Hid (nameB t = (!(t.toList == []) && decide (t.size ≤ 24) && !(t.toList == [46]) && !(t.toList == [46, 46]) && t.data.toList.all fun c => isSg (c.toNat : Int))) := Lib.hid (by unfold nameB; rw [hL])
  clear hL hS
  by_cases hbad : t.toList = [] ∨ 24 < t.size ∨ t.toList = [46] ∨ t.toList = [46, 46]
  · have hf : nameB t = false := by
      rw [HN.out]
      rcases hbad with h | h | h | h
      · simp [h]
      · have : decide (t.size ≤ 24) = false := by simp; omega
        simp [this]
      · simp [h]
      · simp [h]
    rw [hf]
    have HB := Lib.hid hbad
    clear hbad hf HN
    go_enter Tryz.func43, Tryz.ntmps43
    go_wp2_with fail
    go_step3
    go_wp2_with fail
    all_goals (try rw [Exit.noGoto_ret])
    all_goals first
      | (go_ret
         exact ⟨rfl, Below.refl _ _⟩)
      | skip
    all_goals (exfalso; rcases HB.out with h | h | h | h <;> first | omega | (clear HB; simp_all))
  · have h0 : ¬ t.toList = [] := fun h => hbad (.inl h)
    have h1 : ¬ t.toList = [46] := fun h => hbad (.inr (.inr (.inl h)))
    have h2 : ¬ t.toList = [46, 46] := fun h => hbad (.inr (.inr (.inr h)))
    have hz : t.size ≤ 24 := by
      rcases Nat.lt_or_ge 24 t.size with h | h
      · exact absurd (.inr (.inl h)) hbad
      · exact h
    have HA : Hid (nameB t = t.data.toList.all fun c => isSg (c.toNat : Int)) := Lib.hid (by rw [HN.out]; simp [h0, h1, h2, hz])
    have e0 : t.toList.isEmpty = false := by simpa using h0
    have e1 : (t.toList == [46]) = false := by simpa using h1
    have e2 : (t.toList == [46, 46]) = false := by simpa using h2
    clear HN hbad h0 h1 h2
    go_enter Tryz.func43, Tryz.ntmps43
    go_wp2_with fail
    go_step3
    go_wp2_with fail
    go_step3
    go_wp2_with fail
    go_loopw [23] (fun iv wr => ∃ i : Nat, i ≤ t.size ∧ iv = .int .i64 i ∧ Hid (∀ j, j < i → isSg (sgAt t j) = true) ∧ Hid (Below w.heap.size w wr)) (fun iv _ => t.size - (intOf iv).toNat)
    case atStart => exact ⟨0, by omega, rfl, Lib.hid (fun j h => absurd h (by omega)), Lib.hid (Below.refl _ _)⟩
    case round =>
      obtain ⟨i, hi, rfl, HI, HW⟩ := hrel
      by_cases hlt : i < t.size
      · have hx := ps_index t i hlt
        obtain ⟨c, hc⟩ : ∃ c, c = sgAt t i := ⟨_, rfl⟩
        rw [← hc] at hx
        have HC := Lib.hid hc
        clear hc
        have hS1 : SgV wr (.pointer (some ⟨0, 0, none⟩)) := ⟨rfl, HS.out.to HW.out⟩
        go_upto_region 6 with fail
        refine wp_region_lit ?_
        refine wpList_load_mid rfl 135 (.global 0) rfl 0 0 rfl _ _ hS1.2.cells Tryz.underlying135 rfl (by kernel_rfl) ?_
        clear hS1
        have hsg := sg_index
        obtain ⟨SG, hSG⟩ : ∃ v, v = Value.agg sgCells.toArray := ⟨_, rfl⟩
        rw [← hSG] at hsg ⊢
        clear hSG
        have HG := Lib.hid hsg
        clear hsg
        go_wp2_with fail
        generalize wr = w3 at *
        go_loopw [27] (fun kv wx => ∃ k : Nat, k ≤ 5 ∧ kv = .int .i64 k ∧ Hid (∀ j, j < k → inRow c j = false) ∧ Hid (Below w3.heap.size w3 wx)) (fun kv _ => 5 - (intOf kv).toNat)
        case atStart => exact ⟨0, by omega, rfl, Lib.hid (fun j h => absurd h (by omega)), Lib.hid (Below.refl _ _)⟩
        case round =>
          obtain ⟨k, hk, rfl, HK, HX⟩ := hrel
          by_cases hk5 : k < 5
          · have hy := HG.out k hk5
            obtain ⟨f, hf⟩ : ∃ f, f = sgF k := ⟨_, rfl⟩
            obtain ⟨l, hl⟩ : ∃ l, l = sgL k := ⟨_, rfl⟩
            rw [← hf, ← hl] at hy
            have HF : Hid (inRow c k = (decide (f ≤ c) && decide (c ≤ l))) := Lib.hid (by rw [hf, hl]; rfl)
            clear hf hl
            have hB : (wr.alloc (.cells #[.int .u8 f, .int .u8 l] 134)).cell? ⟨wr.heap.size, 0, none⟩ = some (.int .u8 f) ∧ (wr.alloc (.cells #[.int .u8 f, .int .u8 l] 134)).cell? ⟨wr.heap.size, 1, none⟩ = some (.int .u8 l) := ⟨(Blk.new wr _ [_, _]).cell 0, (Blk.new wr _ [_, _]).cell 1⟩
            by_cases g1 : f ≤ c
            · by_cases g2 : c ≤ l
              · have hin : inRow c k = true := by rw [HF.out]; simp [g1, g2]
                have HIN := Lib.hid hin
                clear hin
                go_wp2_with fail
                go_region_held3 (fun w' => w'.cell? ⟨wr.heap.size, 0, none⟩ = some (.int .u8 f) ∧ w'.cell? ⟨wr.heap.size, 1, none⟩ = some (.int .u8 l)) (first | exact hB) (first | go_in)
                go_wp2_with fail
                exact ⟨⟨i + 1, by omega, by go_num, Lib.hid (fun j hj => by
                  by_cases h : j < i
                  · exact HI.out j h
                  · obtain rfl : j = i := by omega
                    rw [← HC.out]
                    exact isSg_row hk5 HIN.out), Lib.hid (HW.out.trans ((HX.out.trans ((pnew _ _).drew.mono HX.out.size)).mono HW.out.size))⟩, by simp [intOf]; omega⟩
              · have hin : inRow c k = false := by rw [HF.out]; simp [g2]
                have d2 : (c ≤ l) = False := eq_false g2
                have HIN := Lib.hid hin
                clear hin
                go_wp2_with fail
                go_region_held3 (fun w' => w'.cell? ⟨wr.heap.size, 0, none⟩ = some (.int .u8 f) ∧ w'.cell? ⟨wr.heap.size, 1, none⟩ = some (.int .u8 l)) (first | exact hB) (first | go_in)
                go_wp2_with fail
                exact ⟨⟨k + 1, by omega, by go_num, Lib.hid (fun j hj => by
                  by_cases h : j < k
                  · exact HK.out j h
                  · obtain rfl : j = k := by omega
                    exact HIN.out), Lib.hid (HX.out.trans ((pnew _ _).drew.mono HX.out.size))⟩, by simp [intOf]; omega⟩
            · have hin : inRow c k = false := by rw [HF.out]; simp [g1]
              have d1 : (f ≤ c) = False := eq_false g1
              have HIN := Lib.hid hin
              clear hin
              go_wp2_with fail
              obtain ⟨hB0, hB1⟩ := hB
              first | (go_region_law (first | go_in)) | fail
              all_goals (go_wp2_with fail)
              all_goals exact ⟨⟨k + 1, by omega, by go_num, Lib.hid (fun j hj => by
                by_cases h : j < k
                · exact HK.out j h
                · obtain rfl : j = k := by omega
                  exact HIN.out), Lib.hid (HX.out.trans ((pnew _ _).drew.mono HX.out.size))⟩, by simp [intOf]; omega⟩
          · obtain rfl : k = 5 := by omega
            go_wp2_with fail
            (try rw [Exit.noGoto_ret])
            go_ret
            refine ⟨pret_bool ?_, HW.out.trans (HX.out.mono HW.out.size)⟩
            rw [HA.out, all_not hlt (by rw [← HC.out]; exact isSg_none HK.out)]
      · obtain rfl : i = t.size := by omega
        have hq := HA.out
        rw [all_at HI.out] at hq
        have HQ := Lib.hid hq
        clear hq
        go_wp2_with fail
        (try rw [Exit.noGoto_ret])
        go_ret
        exact ⟨by rw [HQ.out]; rfl, HW.out⟩
end Go.Proofs.YtmdiajmjmkmnoaaGreatDoor
