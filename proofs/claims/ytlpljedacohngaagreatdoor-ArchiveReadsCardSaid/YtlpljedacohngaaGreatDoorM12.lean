/-
  A name is told as the plain answer tells it. Condition: the signs lie in their variable.
-/
import Derived.Test.YtlpljedacohngaaGreatDoorM1
import Derived.Test.YtlpljedacohngaaGreatDoorChecked
import Derived.Outline
import Derived.Deep.DeepFit
import Derived.Deep.MidRow
import Derived.Deep.DeepCutAuto
import Derived.Deep.CutBlock
import Derived.Deep.RegionHeld3
import Derived.Deep.RegionLaw
import Derived.Lib.Strings
import Derived.Test.YtlpljedacohngaaGreatDoorM4
section
set_option linter.unusedSimpArgs false
set_option linter.unusedVariables false
set_option maxRecDepth 100000
namespace Go.Proofs.YtlpljedacohngaaGreatDoor
open Go.RowKit

theorem ps_index (t : ByteArray) (i : Nat) (hi : i < t.size) (W : World) : (Instr.index 9 (.string t) (.int .i64 i)).run Tryz.prog W = .ok (.int .u8 (sgAt t i)) W := by
  rw [run_index_string _ _ _ _ _ Tryz.underlying9]
  rw [dif_pos ⟨by omega, by omega⟩]
  have hj : i < t.data.toList.length := by rw [Array.length_toList]; exact hi
  unfold sgAt
  rw [List.getD_eq_getElem?_getD, List.getElem?_eq_getElem hj]
  simp only [Int.toNat_natCast]
  simp [ByteArray.getElem_eq_getElem_data]
theorem leq_u8 (x y : Int) (W : World) : (binOp .leq 5 (.int .u8 x) (.int .u8 y)).run Tryz.prog W = .ok (.bool (decide (x ≤ y))) W := by
  simp only [binOp]
  rfl
def SgV (W : World) (v : Value) : Prop := v = .pointer (some ⟨1, 0, none⟩) ∧ PSigns W
section
variable (ρ : Operand → Value) (d : Option Tmp) (t : TypeId) (p : String) (af : Array Edge) (gd : Option (Nat × Bool)) (W : World)
theorem exec_loadSg (x : Operand) (h : SgV W (ρ x)) :
    (execOp ρ ⟨d, .load 156 x, t, p, af, gd⟩).run Tryz.prog W = .ok (.value (.agg sgCells.toArray)) W := by
  simp only [execOp, h.1, Sem.run_bind, run_loadAt_mid W 1 0 _ sgCells _ h.2.cells Tryz.underlying156 rfl (by kernel_rfl), Result.andThen_ok, Sem.run_pure]
end
theorem sg_index (k : Nat) (hk : k < 5) (W : World) : (Instr.index 156 (.agg sgCells.toArray) (.int .i64 k)).run Tryz.prog W = .ok (.agg #[.int .u8 (sgF k), .int .u8 (sgL k)]) W := by
  rcases (by omega : k = 0 ∨ k = 1 ∨ k = 2 ∨ k = 3 ∨ k = 4) with rfl | rfl | rfl | rfl | rfl <;> kernel_rfl

attribute [local go_sem ↓] exec_loadSg
set_option maxHeartbeats 1000000 in
set_option maxRecDepth 100000 in
theorem name_any (w : World) (hS : PSigns w) (t : ByteArray) : Calls Tryz.prog 85 #[.string t] w fun e w' => e = .returned (.bool (pnameB t)) ∧ Below w.heap.size w w' := by
  have hL : t.data.toList = t.toList := (ByteArray.toList_eq _).symm
  have HS := Lib.hid hS
  have HN : Hid (pnameB t = (!(t.toList == []) && decide (t.size ≤ 24) && !(t.toList == [46]) && !(t.toList == [46, 46]) && t.data.toList.all fun c => isSg (c.toNat : Int))) := Lib.hid (by unfold pnameB; rw [hL])
  clear hL hS
  by_cases hbad : t.toList = [] ∨ 24 < t.size ∨ t.toList = [46] ∨ t.toList = [46, 46]
  · have hf : pnameB t = false := by
      rw [HN.out]
      rcases hbad with h | h | h | h
      · simp [h]
      · have : decide (t.size ≤ 24) = false := by simp; omega
        simp [this]
      · simp [h]
      · simp [h]
    rw [hf]
    have HB := Lib.hid hbad
    clear hbad hf HN
    go_enter Tryz.func85, Tryz.ntmps85
    go_wp2_with fail
    go_step3
    go_wp2_with fail
    all_goals (try rw [Exit.noGoto_ret])
    all_goals first
      | (go_ret
         exact ⟨rfl, Below.refl _ _⟩)
      | skip
    all_goals (exfalso; rcases HB.out with h | h | h | h <;> first | omega | (clear HB; simp_all))
  · have h0 : ¬ t.toList = [] := fun h => hbad (.inl h)
    have h1 : ¬ t.toList = [46] := fun h => hbad (.inr (.inr (.inl h)))
    have h2 : ¬ t.toList = [46, 46] := fun h => hbad (.inr (.inr (.inr h)))
    have hz : t.size ≤ 24 := by
      rcases Nat.lt_or_ge 24 t.size with h | h
      · exact absurd (.inr (.inl h)) hbad
      · exact h
    have HA : Hid (pnameB t = t.data.toList.all fun c => isSg (c.toNat : Int)) := Lib.hid (by rw [HN.out]; simp [h0, h1, h2, hz])
    have e0 : t.toList.isEmpty = false := by simpa using h0
    have e1 : (t.toList == [46]) = false := by simpa using h1
    have e2 : (t.toList == [46, 46]) = false := by simpa using h2
    clear HN hbad h0 h1 h2
    go_enter Tryz.func85, Tryz.ntmps85
    go_wp2_with fail
    go_step3
    go_wp2_with fail
    go_step3
    go_wp2_with fail
    go_loopw [23] (fun iv wr => ∃ i : Nat, i ≤ t.size ∧ iv = .int .i64 i ∧ Hid (∀ j, j < i → isSg (sgAt t j) = true) ∧ Hid (Below w.heap.size w wr)) (fun iv _ => t.size - (intOf iv).toNat)
    case atStart => exact ⟨0, by omega, rfl, Lib.hid (fun j h => absurd h (by omega)), Lib.hid (Below.refl _ _)⟩
    case round =>
      obtain ⟨i, hi, rfl, HI, HW⟩ := hrel
      by_cases hlt : i < t.size
      · have hx := ps_index t i hlt
        obtain ⟨c, hc⟩ : ∃ c, c = sgAt t i := ⟨_, rfl⟩
        rw [← hc] at hx
        have HC := Lib.hid hc
        clear hc
        have hS1 : SgV wr (.pointer (some ⟨1, 0, none⟩)) := ⟨rfl, HS.out.to HW.out⟩
        go_upto_region 6 with fail
        refine wp_region_lit ?_
        refine wpList_load_mid rfl 156 (.global 1) rfl 1 0 rfl _ _ hS1.2.cells Tryz.underlying156 rfl (by kernel_rfl) ?_
        clear hS1
        have hsg := sg_index
        obtain ⟨SG, hSG⟩ : ∃ v, v = Value.agg sgCells.toArray := ⟨_, rfl⟩
        rw [← hSG] at hsg ⊢
        clear hSG
        have HG := Lib.hid hsg
        clear hsg
        go_wp2_with fail
        generalize wr = w3 at *
        go_loopw [27] (fun kv wx => ∃ k : Nat, k ≤ 5 ∧ kv = .int .i64 k ∧ Hid (∀ j, j < k → inRow c j = false) ∧ Hid (Below w3.heap.size w3 wx)) (fun kv _ => 5 - (intOf kv).toNat)
        case atStart => exact ⟨0, by omega, rfl, Lib.hid (fun j h => absurd h (by omega)), Lib.hid (Below.refl _ _)⟩
        case round =>
          obtain ⟨k, hk, rfl, HK, HX⟩ := hrel
          by_cases hk5 : k < 5
          · have hy := HG.out k hk5
            obtain ⟨f, hf⟩ : ∃ f, f = sgF k := ⟨_, rfl⟩
            obtain ⟨l, hl⟩ : ∃ l, l = sgL k := ⟨_, rfl⟩
            rw [← hf, ← hl] at hy
            have HF : Hid (inRow c k = (decide (f ≤ c) && decide (c ≤ l))) := Lib.hid (by rw [hf, hl]; rfl)
            clear hf hl
            have hB : (wr.alloc (.cells #[.int .u8 f, .int .u8 l] 155)).cell? ⟨wr.heap.size, 0, none⟩ = some (.int .u8 f) ∧ (wr.alloc (.cells #[.int .u8 f, .int .u8 l] 155)).cell? ⟨wr.heap.size, 1, none⟩ = some (.int .u8 l) := ⟨(Blk.new wr _ [_, _]).cell 0, (Blk.new wr _ [_, _]).cell 1⟩
            by_cases g1 : f ≤ c
            · by_cases g2 : c ≤ l
              · have hin : inRow c k = true := by rw [HF.out]; simp [g1, g2]
                have HIN := Lib.hid hin
                clear hin
                go_wp2_with fail
                go_region_held3 (fun w' => w'.cell? ⟨wr.heap.size, 0, none⟩ = some (.int .u8 f) ∧ w'.cell? ⟨wr.heap.size, 1, none⟩ = some (.int .u8 l)) (first | exact hB) (first | go_in)
                go_wp2_with fail
                exact ⟨⟨i + 1, by omega, by go_num, Lib.hid (fun j hj => by
                  by_cases h : j < i
                  · exact HI.out j h
                  · obtain rfl : j = i := by omega
                    rw [← HC.out]
                    exact isSg_row hk5 HIN.out), Lib.hid (HW.out.trans ((HX.out.trans ((pnew _ _).drew.mono HX.out.size)).mono HW.out.size))⟩, by simp [intOf]; omega⟩
              · have hin : inRow c k = false := by rw [HF.out]; simp [g2]
                have d2 : (c ≤ l) = False := eq_false g2
                have HIN := Lib.hid hin
                clear hin
                go_wp2_with fail
                go_region_held3 (fun w' => w'.cell? ⟨wr.heap.size, 0, none⟩ = some (.int .u8 f) ∧ w'.cell? ⟨wr.heap.size, 1, none⟩ = some (.int .u8 l)) (first | exact hB) (first | go_in)
                go_wp2_with fail
                exact ⟨⟨k + 1, by omega, by go_num, Lib.hid (fun j hj => by
                  by_cases h : j < k
                  · exact HK.out j h
                  · obtain rfl : j = k := by omega
                    exact HIN.out), Lib.hid (HX.out.trans ((pnew _ _).drew.mono HX.out.size))⟩, by simp [intOf]; omega⟩
            · have hin : inRow c k = false := by rw [HF.out]; simp [g1]
              have d1 : (f ≤ c) = False := eq_false g1
              have HIN := Lib.hid hin
              clear hin
              go_wp2_with fail
              obtain ⟨hB0, hB1⟩ := hB
              first | (go_region_law (first | go_in)) | fail
              all_goals (go_wp2_with fail)
              all_goals exact ⟨⟨k + 1, by omega, by go_num, Lib.hid (fun j hj => by
                by_cases h : j < k
                · exact HK.out j h
                · obtain rfl : j = k := by omega
                  exact HIN.out), Lib.hid (HX.out.trans ((pnew _ _).drew.mono HX.out.size))⟩, by simp [intOf]; omega⟩
          · obtain rfl : k = 5 := by omega
            go_wp2_with fail
            (try rw [Exit.noGoto_ret])
            go_ret
            refine ⟨pret_bool ?_, HW.out.trans (HX.out.mono HW.out.size)⟩
            rw [HA.out, all_not hlt (by rw [← HC.out]; exact isSg_none HK.out)]
      · obtain rfl : i = t.size := by omega
        have hq := HA.out
        rw [all_at HI.out] at hq
        have HQ := Lib.hid hq
        clear hq
        go_wp2_with fail
        (try rw [Exit.noGoto_ret])
        go_ret
        exact ⟨by rw [HQ.out]; rfl, HW.out⟩
end Go.Proofs.YtlpljedacohngaaGreatDoor
end

/-
  Lists of texts that lie in memory, and the calls that read them: whether a list is a path, whether two are the same. Conditions: the signs lie in their variable; the lists lie in memory.
-/

section
set_option linter.unusedSimpArgs false
set_option linter.unusedVariables false
set_option maxRecDepth 100000
namespace Go.Proofs.YtlpljedacohngaaGreatDoor
open Go.RowKit

/-- A list of texts lies in memory. -/
structure SIn (w : World) (A : Option Addr) (n c : Nat) (p : Pa) : Prop where
  len : p.length = n
  cap : n ≤ c
  big : c ≤ 9223372036854775807
  nil : A = none → c = 0
  cells : 0 < n → ∃ g o, A = some ⟨g, o, none⟩ ∧ g < w.heap.size ∧ ∀ (i : Nat) t, p[i]? = some t → w.cell? ⟨g, o + i, none⟩ = some (.string t)
section
variable {w w' : World} {A : Option Addr} {n c : Nat} {p : Pa}
theorem SIn.below (h : SIn w A n c p) (hb : Below w.heap.size w w') : SIn w' A n c p := by
  refine ⟨h.len, h.cap, h.big, h.nil, fun hn => ?_⟩
  obtain ⟨g, o, hA, hg, hc⟩ := h.cells hn
  exact ⟨g, o, hA, Nat.lt_of_lt_of_le hg hb.size, fun i t ht => (hb.cell (p := ⟨g, _, none⟩) hg).trans (hc i t ht)⟩
theorem SIn.take (h : SIn w A n c p) {k : Nat} (hk : k ≤ n) {c' : Nat} (h1 : k ≤ c') (h2 : c' ≤ c) : SIn w A k c' (p.take k) := by
  refine ⟨by rw [List.length_take, h.len]; omega, h1, by have := h.big; omega, fun ha => by have := h.nil ha; omega, fun hn => ?_⟩
  obtain ⟨g, o, hA, hg, hc⟩ := h.cells (by omega)
  refine ⟨g, o, hA, hg, fun i t ht => hc i t ?_⟩
  rw [List.getElem?_take] at ht
  split at ht
  · exact ht
  · cases ht
theorem SIn.none (w : World) (A : Option Addr) {c : Nat} (h : c ≤ 9223372036854775807) (hn : A = Option.none → c = 0) : SIn w A 0 c [] := ⟨rfl, Nat.zero_le _, h, hn, fun h => absurd h (by omega)⟩
theorem SIn.get (h : SIn w A n c p) {i : Nat} (hi : i < n) : ∃ t, p[i]? = some t := ⟨_, List.getElem?_eq_getElem (by rw [h.len]; exact hi)⟩
theorem SIn.row {g o : Nat} (h : SIn w (some ⟨g, o, Option.none⟩) n c p) : ∀ (i : Nat) t, p[i]? = some t → w.cell? ⟨g, o + i, Option.none⟩ = some (.string t) := by
  intro i t ht
  have hi := (List.getElem?_eq_some_iff.1 ht).1
  obtain ⟨g', o', hA, _, hc⟩ := h.cells (by rw [← h.len]; omega)
  cases hA
  exact hc i t ht
/-- Texts in memory of the call's own. -/
theorem SIn.of_own {N : Nat} {v : Value} {xs : List Value} (h : w.ownsRow N 9 1 v n xs) (hx : xs = p.map Value.string) : ∃ A c, v = .slice A n c ∧ SIn w A n c p ∧ ∀ a, A = some a → N ≤ a.block := by
  have hl : p.length = n := by
    have := h.1
    rw [hx, List.length_map] at this
    omega
  rcases h.2 with ⟨rfl, h0⟩ | ⟨g, cap, cur, rfl, hg, hb, h1, h2, h3, h4⟩
  · exact ⟨Option.none, 0, by rw [h0], ⟨hl, by omega, by omega, fun _ => rfl, fun hp => absurd hp (by omega)⟩, fun a ha => by cases ha⟩
  · refine ⟨_, _, rfl, ⟨hl, h1, by unfold maxLen at h2; omega, (fun ha => by cases ha), fun hp => ⟨g, 0, rfl, (Array.getElem?_eq_some_iff.1 hb).1, fun i t ht => ?_⟩⟩, fun a ha => by cases ha; exact hg⟩
    have hk : Blk w g 9 cur.toList := by simpa [Blk] using hb
    rw [hk.cell, Nat.zero_add]
    have h5 : (p.map Value.string)[i]? = some (.string t) := by rw [List.getElem?_map, ht]; rfl
    rw [← hx, ← h4, List.getElem?_take] at h5
    split at h5
    · exact h5
    · cases h5
end
/-- The variables that paths' calls read. -/
def PV (w : World) : Prop := PSigns w ∧ ∃ m, w.cell? ⟨2, 0, none⟩ = some (.int .i64 m)
theorem PV.to {w w' : World} (h : PV w) (hb : Below w.heap.size w w') : PV w' := by
  obtain ⟨h1, m, h2⟩ := h
  exact ⟨h1.to hb, m, pcell_below h2 hb⟩

theorem all_take {p : Pa} {f : ByteArray → Bool} (h : ∀ (j : Nat) t, p[j]? = some t → f t = true) : p.all f = true := by
  rw [List.all_eq_true]
  intro t ht
  obtain ⟨j, hj⟩ := List.getElem?_of_mem ht
  exact h j t hj
theorem all_stop {p : Pa} {f : ByteArray → Bool} {j : Nat} {t : ByteArray} (h : p[j]? = some t) (hf : f t = false) : p.all f = false := by
  rw [List.all_eq_false]
  exact ⟨t, List.mem_of_getElem? h, by simp [hf]⟩
set_option maxHeartbeats 1000000 in
theorem right_any (w : World) (hS : PSigns w) (A : Option Addr) (n c : Nat) (p : Pa) (h : SIn w A n c p) :
    Calls Tryz.prog 70 #[.slice A n c] w fun e w' => e = .returned (.bool (rightB p)) ∧ Below w.heap.size w w' := by
  have hbig : n ≤ 9223372036854775807 := by have := h.cap; have := h.big; omega
  have H := Lib.hid (And.intro h hS)
  have HL := Lib.hid h.len
  clear h hS
  by_cases h8 : n ≤ 8
  · have HF : Hid (rightB p = p.all pnameB) := Lib.hid (by unfold rightB; rw [HL.out]; simp [h8])
    go_enter Tryz.func70, Tryz.ntmps70
    go_wp2_with fail
    go_loopw [10] (fun iv wr => ∃ i : Nat, i ≤ n ∧ iv = .int .i64 i ∧ Hid (∀ (j : Nat) t, j < i → p[j]? = some t → pnameB t = true) ∧ Hid (Below w.heap.size w wr)) (fun iv _ => n - (intOf iv).toNat)
    case atStart => exact ⟨0, by omega, rfl, Lib.hid (fun j t h => absurd h (by omega)), Lib.hid (Below.refl _ _)⟩
    case round =>
      obtain ⟨i, hi, rfl, HK, HW⟩ := hrel
      by_cases hlt : i < n
      · obtain ⟨t, ht⟩ := H.out.1.get hlt
        obtain ⟨g, o, rfl, hg, hcl⟩ := (H.out.1.below HW.out).cells (by omega)
        have hc := hcl i t ht
        have HT := Lib.hid ht
        clear hcl ht
        go_wp2_with fail
        refine (name_any wr (H.out.2.to HW.out) t).mono ?_
        rintro e w2 ⟨rfl, h2⟩
        have H2 := Lib.hid (HW.out.trans (h2.mono HW.out.size))
        clear h2
        cases hq : pnameB t with
        | true =>
          have HQ := Lib.hid hq
          clear hq
          go_wp2_with fail
          go_roundw
          case rel =>
            exact ⟨i + 1, by omega, by go_num, Lib.hid (fun j u hj hu => by
              by_cases h : j < i
              · exact HK.out j u h hu
              · obtain rfl : j = i := by omega
                rw [HT.out] at hu
                cases hu
                exact HQ.out), H2⟩
          case measure => simp [intOf]; omega
        | false =>
          have HQ := Lib.hid hq
          clear hq
          go_wp2_with fail
          go_ret
          exact ⟨pret_bool (by rw [HF.out, all_stop HT.out HQ.out]), H2.out⟩
      · obtain rfl : i = n := by omega
        have HQ : Hid (p.all pnameB = true) := Lib.hid (all_take fun j t ht => HK.out j t (by have := (List.getElem?_eq_some_iff.1 ht).1; have := HL.out; omega) ht)
        go_wp2_with fail
        go_ret
        exact ⟨pret_bool (by rw [HF.out, HQ.out]), HW.out⟩
  · have HF : Hid (rightB p = false) := Lib.hid (by unfold rightB; rw [HL.out]; simp [h8])
    go_enter Tryz.func70, Tryz.ntmps70
    go_wp2_with fail
    go_ret
    exact ⟨pret_bool (by rw [HF.out]), Below.refl _ _⟩
/-- Are two lists of texts the same? -/
theorem str_ne {t u : ByteArray} (h : t ≠ u) : (t.toList == u.toList) = false := by
  rw [beq_eq_false_iff_ne]
  intro e
  apply h
  rw [ByteArray.toList_eq, ByteArray.toList_eq] at e
  exact congrArg ByteArray.mk (Array.toList_inj.1 e)
theorem pa_ne_len {p q : Pa} (h : p.length ≠ q.length) : p ≠ q := fun e => h (by rw [e])
theorem pa_ext {p q : Pa} (hl : p.length = q.length) (h : ∀ (j : Nat) t u, p[j]? = some t → q[j]? = some u → t = u) : p = q := by
  apply List.ext_getElem? 
  intro j
  rcases Nat.lt_or_ge j p.length with hj | hj
  · have e1 := List.getElem?_eq_getElem hj
    have e2 := List.getElem?_eq_getElem (l := q) (i := j) (by omega)
    rw [e1, e2, h j _ _ e1 e2]
  · rw [List.getElem?_eq_none hj, List.getElem?_eq_none (by omega)]
set_option maxHeartbeats 1000000 in
theorem equal_strs (w : World) (A B : Option Addr) (n c m d : Nat) (p q : Pa) (h : SIn w A n c p) (k : SIn w B m d q) :
    Calls Tryz.prog 86 #[.slice A n c, .slice B m d] w fun e w' => e = .returned (.bool (decide (p = q))) ∧ Below w.heap.size w w' := by
  have hbig : n ≤ 9223372036854775807 := by have := h.cap; have := h.big; omega
  have H := Lib.hid (And.intro h k)
  have HL := Lib.hid (And.intro h.len k.len)
  clear h k
  by_cases hnm : n = m
  · subst hnm
    go_enter Tryz.func86, Tryz.ntmps86
    go_wp2_with fail
    go_loopw [13] (fun iv wr => ∃ i : Nat, i ≤ n ∧ iv = .int .i64 i ∧ Hid (∀ (j : Nat) t u, j < i → p[j]? = some t → q[j]? = some u → t = u) ∧ Hid (Below w.heap.size w wr)) (fun iv _ => n - (intOf iv).toNat)
    case atStart => exact ⟨0, by omega, rfl, Lib.hid (fun j t u h => absurd h (by omega)), Lib.hid (Below.refl _ _)⟩
    case round =>
      obtain ⟨i, hi, rfl, HK, HW⟩ := hrel
      by_cases hlt : i < n
      · obtain ⟨t, ht⟩ := H.out.1.get hlt
        obtain ⟨u, hu⟩ := H.out.2.get hlt
        obtain ⟨g, o, rfl, hg, hcl⟩ := (H.out.1.below HW.out).cells (by omega)
        obtain ⟨g2, o2, rfl, hg2, hcl2⟩ := (H.out.2.below HW.out).cells (by omega)
        have hc := hcl i t ht
        have hc2 := hcl2 i u hu
        have HT := Lib.hid (And.intro ht hu)
        clear hcl ht hcl2 hu
        by_cases htu : t = u
        · subst htu
          go_wp2_with fail
          first | (go_region_law (first | go_in)) | fail
          all_goals (go_wp2_with fail)
          all_goals exact ⟨⟨i + 1, by omega, by go_num, Lib.hid (fun j x y hj hx hy => by
            by_cases h : j < i
            · exact HK.out j x y h hx hy
            · obtain rfl : j = i := by omega
              have h1 := HT.out.1
              have h2 := HT.out.2
              rw [hx] at h1
              rw [hy] at h2
              cases h1
              cases h2
              rfl), Lib.hid (HW.out.trans ((pdrew _).mono HW.out.size))⟩, by simp [intOf]; omega⟩
        · have hd := str_ne htu
          have HQ : Hid (decide (p = q) = false) := Lib.hid (decide_eq_false fun e => htu (by
            have h1 := HT.out.1
            have h2 := HT.out.2
            rw [e] at h1
            rw [h1] at h2
            cases h2
            rfl))
          go_wp2_with fail
          first | (go_region_law (first | go_in)) | fail
          all_goals (go_wp2_with fail)
          all_goals ((try rw [Exit.noGoto_ret]); go_ret; exact ⟨pret_bool (by rw [HQ.out]), HW.out.trans ((pdrew _).mono HW.out.size)⟩)
      · obtain rfl : i = n := by omega
        have HQ : Hid (decide (p = q) = true) := Lib.hid (decide_eq_true (pa_ext (by rw [HL.out.1, HL.out.2]) fun j x y hx hy => HK.out j x y (by have := (List.getElem?_eq_some_iff.1 hx).1; have := HL.out.1; omega) hx hy))
        go_wp2_with fail
        go_ret
        exact ⟨pret_bool (by rw [HQ.out]), HW.out⟩
  · have HQ : Hid (decide (p = q) = false) := Lib.hid (decide_eq_false (pa_ne_len (by rw [HL.out.1, HL.out.2]; exact hnm)))
    have hd : ¬ (n : Int) = m := by omega
    go_enter Tryz.func86, Tryz.ntmps86
    go_wp2_with fail
    go_ret
    exact ⟨pret_bool (by rw [HQ.out]), Below.refl _ _⟩
theorem psame_any (w : World) (A B : Option Addr) (n c m d : Nat) (p q : Pa) (h : SIn w A n c p) (k : SIn w B m d q) :
    Calls Tryz.prog 71 #[.slice A n c, .slice B m d] w fun e w' => e = .returned (.bool (decide (p = q))) ∧ Below w.heap.size w w' := by
  have HE := Lib.hid (equal_strs w A B n c m d p q h k)
  clear h k
  go_enter Tryz.func71, Tryz.ntmps71
  go_wp2_with fail
  refine HE.out.mono ?_
  rintro e w2 ⟨rfl, h2⟩
  have H2 := Lib.hid h2
  clear h2
  go_wp2_with fail
  go_ret
  exact ⟨rfl, H2.out⟩
end Go.Proofs.YtlpljedacohngaaGreatDoor
end

/-
  The document's Name, and Right: as the plain answers tell. Condition: the list lies in memory.
-/

section
set_option linter.unusedSimpArgs false
set_option linter.unusedVariables false
set_option maxRecDepth 100000
namespace Go.Proofs.YtlpljedacohngaaGreatDoor
open Go.RowKit

theorem x_idx {P : Program} {ρ : Operand → Value} {o : Oper} {w w' : World} {t : TypeId} {x k : Operand} {y j z : Value} (ho : o.op = .index t x k) (hx : ρ x = y) (hk : ρ k = j) (hr : (Instr.index t y j).run P w = .ok z w') : (execOp ρ o).run P w = .ok (.value z) w' :=
  x_of (by unfold execOp; rw [ho]; simp only [hx, hk]) hr
def mayS : ByteArray := ⟨#[97, 98, 99, 100, 101, 102, 103, 104, 105, 106, 107, 108, 109, 110, 111, 112, 113, 114, 115, 116, 117, 118, 119, 120, 121, 122, 48, 49, 50, 51, 52, 53, 54, 55, 56, 57, 46, 45, 95]⟩
/-- Is a sign among the first of them? -/
def anyS (c : Int) : Nat → Bool
  | 0 => false
  | k + 1 => anyS c k || decide (sgAt mayS k = c)
theorem any_next (c : Int) (k : Nat) : anyS c (k + 1) = (anyS c k || decide (sgAt mayS k = c)) := rfl
theorem any_all : ∀ c : Fin 256, anyS (c.val : Int) 39 = isSg (c.val : Int) := by decide +kernel
theorem any_sg {c : Int} (h0 : 0 ≤ c) (h1 : c < 256) : anyS c 39 = isSg c := by
  have := any_all ⟨c.toNat, by omega⟩
  simpa [Int.toNat_of_nonneg h0] using this
theorem sgAt_u8 (t : ByteArray) (j : Nat) : 0 ≤ sgAt t j ∧ sgAt t j < 256 := by
  unfold sgAt
  have := (t.data.toList.getD j 0).toNat_lt
  omega
set_option maxHeartbeats 2000000 in
set_option maxRecDepth 100000 in
theorem rname_any (w : World) (t : ByteArray) : Calls Tryz.prog 23 #[.string t] w fun e w' => e = .returned (.bool (pnameB t)) ∧ Below w.heap.size w w' := by
  have hL : t.data.toList = t.toList := (ByteArray.toList_eq _).symm
  have HN : Hid (pnameB t = (!(t.toList == []) && decide (t.size ≤ 24) && !(t.toList == [46]) && !(t.toList == [46, 46]) && t.data.toList.all fun c => isSg (c.toNat : Int))) := Lib.hid (by unfold pnameB; rw [hL])
  have hs0 : t.size = t.toList.length := by rw [← hL, Array.length_toList]; rfl
  clear hL
  by_cases hbad : t.size = 0 ∨ 24 < t.size ∨ t.toList = [46] ∨ t.toList = [46, 46]
  · have hf : pnameB t = false := by
      rw [HN.out]
      rcases hbad with h | h | h | h
      · have : t.toList = [] := List.eq_nil_of_length_eq_zero (by omega)
        simp [this]
      · have : decide (t.size ≤ 24) = false := by simp; omega
        simp [this]
      · simp [h]
      · simp [h]
    rw [hf]
    have HB := Lib.hid hbad
    clear hbad hf HN hs0
    go_enter Tryz.func23, Tryz.ntmps23
    go_wp2_with fail
    all_goals (try rw [Exit.noGoto_ret])
    all_goals first
      | (go_ret
         exact ⟨rfl, Below.refl _ _⟩)
      | skip
    all_goals (exfalso; rcases HB.out with h | h | h | h <;> first | omega | (clear HB; simp_all))
  · have h0 : ¬ t.size = 0 := fun h => hbad (.inl h)
    have h1 : ¬ t.toList = [46] := fun h => hbad (.inr (.inr (.inl h)))
    have h2 : ¬ t.toList = [46, 46] := fun h => hbad (.inr (.inr (.inr h)))
    have hz : t.size ≤ 24 := by
      rcases Nat.lt_or_ge 24 t.size with h | h
      · exact absurd (.inr (.inl h)) hbad
      · exact h
    have h00 : ¬ t.toList = [] := fun h => h0 (by rw [hs0, h]; rfl)
    have HA : Hid (pnameB t = t.data.toList.all fun c => isSg (c.toNat : Int)) := Lib.hid (by rw [HN.out]; simp [h00, h1, h2, hz])
    have b0 : ¬ (t.size : Int) = 0 := by omega
    have b00 : ¬ t = ByteArray.empty := fun h => h0 (by rw [h]; rfl)
    have b1 : ¬ (24 : Int) < (t.size : Int) := by omega
    have e1 : (t.toList == [46]) = false := by simpa using h1
    have e2 : (t.toList == [46, 46]) = false := by simpa using h2
    clear HN hbad h0 h1 h2 h00 hs0
    go_enter Tryz.func23, Tryz.ntmps23
    go_wp2_with fail
    go_loopw [4] (fun iv wr => ∃ i : Nat, i ≤ t.size ∧ iv = .int .i64 i ∧ Hid (∀ j, j < i → isSg (sgAt t j) = true) ∧ Hid (Below w.heap.size w wr)) (fun iv _ => t.size - (intOf iv).toNat)
    case atStart => exact ⟨0, by omega, rfl, Lib.hid (fun j h => absurd h (by omega)), Lib.hid (Below.refl _ _)⟩
    case round =>
      obtain ⟨i, hi, rfl, HI, HW⟩ := hrel
      by_cases hlt : i < t.size
      · have HX := Lib.hid (ps_index t i hlt)
        obtain ⟨hc0, hc1⟩ := sgAt_u8 t i
        obtain ⟨c, hc⟩ : ∃ c, c = sgAt t i := ⟨_, rfl⟩
        rw [← hc] at HX hc0 hc1
        have HC := Lib.hid (And.intro hc (any_sg hc0 hc1))
        clear hc hc0 hc1
        go_wp2_with fail
        generalize wr = w3 at *
        go_loopw [5, 6] (fun fv kv wx => ∃ k : Nat, ∃ fd : Bool, k ≤ 39 ∧ kv = .int .i64 k ∧ fv = .bool fd ∧ Hid (fd = anyS c k) ∧ Hid (Below w.heap.size w wx)) (fun _ kv _ => 39 - (intOf kv).toNat)
        case atStart => exact ⟨0, false, by omega, rfl, rfl, Lib.hid rfl, HW⟩
        case round =>
          obtain ⟨k, fd, hk, rfl, rfl, HFD, HY⟩ := hrel
          by_cases hk39 : k < 39
          · cases fd with
            | true =>
              go_wp2_with fail
              refine wp_hideQ ?_
              intro QQ hQQ
              refine wp_region_quickT [some 35, some 36, some 37, some 38, some 39, some 40, some 41, some 42, some 43, some 44] [isV (.bool true), isV (.bool true), isV undef, isV undef, isV undef, isV undef, isV undef, isV undef, isV undef, isV (.bool true)] 10 11 (by kernel_rfl) rfl rfl rfl rfl (by kernel_rfl) (by kernel_rfl) (by simp [isV.st]) ?_ ?_
              · intro hq rz hz
                match rz, hz with
                | 0, _ =>
                  refine StepL.val rfl [] (by decide +kernel) ?_
                  intro v wx hR hd
                  exact ⟨wanted_plain rfl _, _, _, x_move rfl (fill_off rfl rfl), hR, Below.refl _ _, rfl⟩
                | 1, _ =>
                  refine StepL.val rfl [0] (by decide +kernel) ?_
                  intro v wx hR hd
                  have h0 : v 0 = _ := hd 0 (by simp)
                  exact ⟨wanted_plain rfl _, _, _, x_move rfl (hq.at_ rfl h0), hR, Below.refl _ _, rfl⟩
                | 2, _ =>
                  refine StepL.skip rfl [1] (by decide +kernel) ?_
                  intro v wx hR hd
                  have h1 : v 1 = _ := hd 1 (by simp)
                  exact ⟨hq.no rfl rfl rfl h1 rfl, Below.refl _ _, rfl⟩
                | 3, _ =>
                  refine StepL.skip rfl [1] (by decide +kernel) ?_
                  intro v wx hR hd
                  have h1 : v 1 = _ := hd 1 (by simp)
                  exact ⟨hq.no rfl rfl rfl h1 rfl, Below.refl _ _, rfl⟩
                | 4, _ =>
                  refine StepL.skip rfl [1] (by decide +kernel) ?_
                  intro v wx hR hd
                  have h1 : v 1 = _ := hd 1 (by simp)
                  exact ⟨hq.no rfl rfl rfl h1 rfl, Below.refl _ _, rfl⟩
                | 5, _ =>
                  refine StepL.skip rfl [1] (by decide +kernel) ?_
                  intro v wx hR hd
                  have h1 : v 1 = _ := hd 1 (by simp)
                  exact ⟨hq.no rfl rfl rfl h1 rfl, Below.refl _ _, rfl⟩
                | 6, _ =>
                  refine StepL.skip rfl [1] (by decide +kernel) ?_
                  intro v wx hR hd
                  have h1 : v 1 = _ := hd 1 (by simp)
                  exact ⟨hq.no rfl rfl rfl h1 rfl, Below.refl _ _, rfl⟩
                | 7, _ =>
                  refine StepL.skip rfl [1] (by decide +kernel) ?_
                  intro v wx hR hd
                  have h1 : v 1 = _ := hd 1 (by simp)
                  exact ⟨hq.no rfl rfl rfl h1 rfl, Below.refl _ _, rfl⟩
                | 8, _ =>
                  refine StepL.skip rfl [1] (by decide +kernel) ?_
                  intro v wx hR hd
                  have h1 : v 1 = _ := hd 1 (by simp)
                  exact ⟨hq.no rfl rfl rfl h1 rfl, Below.refl _ _, rfl⟩
                | 9, _ =>
                  refine StepL.val rfl [1] (by decide +kernel) ?_
                  intro v wx hR hd
                  have h1 : v 1 = _ := hd 1 (by simp)
                  exact ⟨wanted_plain rfl _, _, _, x_pick_yes rfl (hq.at_ rfl h1) rfl, hR, Below.refl _ _, rfl⟩
                | rz + 10, h => omega
              · intro v wx hR hV
                have h9 : v 9 = _ := hV 9 (by omega)
                simp only [fillR, Act.put, List.setIfInBounds_toArray, List.set_cons_zero, List.set_cons_succ, List.drop_succ_cons, List.drop_zero, h9]
                have HR := Lib.hid (HY.out.trans (hR.mono HY.out.size))
                clear hV hR
                go_wp2_with fail
                exact ⟨⟨k + 1, _, by omega, by go_num, rfl, Lib.hid (by rw [any_next, ← HFD.out]; rfl), HR⟩, by simp [intOf]; omega⟩
            | false =>
              go_wp2_with fail
              refine wp_hideQ ?_
              intro QQ hQQ
              refine wp_region_quickT [some 35, some 36, some 37, some 38, some 39, some 40, some 41, some 42, some 43, some 44] [isV (.bool false), isV (.bool false), isV (.string mayS), isV (.int .i64 (k : Int)), isV (.int .u8 (sgAt mayS k)), isV (.string t), isV (.int .i64 (i : Int)), isV (.int .u8 c), isV (.bool (decide (sgAt mayS k = c))), isV (.bool (decide (sgAt mayS k = c)))] 10 11 (by kernel_rfl) rfl rfl rfl rfl (by kernel_rfl) (by kernel_rfl) (by simp [isV.st]) ?_ ?_
              · intro hq rz hz
                match rz, hz with
                | 0, _ =>
                  refine StepL.val rfl [] (by decide +kernel) ?_
                  intro v wx hR hd
                  exact ⟨wanted_plain rfl _, _, _, x_move rfl (fill_off rfl rfl), hR, Below.refl _ _, rfl⟩
                | 1, _ =>
                  refine StepL.val rfl [0] (by decide +kernel) ?_
                  intro v wx hR hd
                  have h0 : v 0 = _ := hd 0 (by simp)
                  exact ⟨wanted_plain rfl _, _, _, x_move rfl (hq.at_ rfl h0), hR, Below.refl _ _, rfl⟩
                | 2, _ =>
                  refine StepL.val rfl [1] (by decide +kernel) ?_
                  intro v wx hR hd
                  have h1 : v 1 = _ := hd 1 (by simp)
                  exact ⟨hq.yes rfl rfl rfl h1, _, _, x_move rfl (fill_off rfl rfl), hR, Below.refl _ _, rfl⟩
                | 3, _ =>
                  refine StepL.val rfl [1] (by decide +kernel) ?_
                  intro v wx hR hd
                  have h1 : v 1 = _ := hd 1 (by simp)
                  exact ⟨hq.yes rfl rfl rfl h1, _, _, x_move rfl (fill_off rfl rfl), hR, Below.refl _ _, rfl⟩
                | 4, _ =>
                  refine StepL.val rfl [2, 3, 1] (by decide +kernel) ?_
                  intro v wx hR hd
                  have h2 : v 2 = _ := hd 2 (by simp)
                  have h3 : v 3 = _ := hd 3 (by simp)
                  have h1 : v 1 = _ := hd 1 (by simp)
                  exact ⟨hq.yes rfl rfl rfl h1, _, _, x_idx rfl (hq.at_ rfl h2) (hq.at_ rfl h3) (ps_index mayS k hk39 _), hR, Below.refl _ _, rfl⟩
                | 5, _ =>
                  refine StepL.val rfl [1] (by decide +kernel) ?_
                  intro v wx hR hd
                  have h1 : v 1 = _ := hd 1 (by simp)
                  exact ⟨hq.yes rfl rfl rfl h1, _, _, x_move rfl (fill_off rfl rfl), hR, Below.refl _ _, rfl⟩
                | 6, _ =>
                  refine StepL.val rfl [1] (by decide +kernel) ?_
                  intro v wx hR hd
                  have h1 : v 1 = _ := hd 1 (by simp)
                  exact ⟨hq.yes rfl rfl rfl h1, _, _, x_move rfl (fill_off rfl rfl), hR, Below.refl _ _, rfl⟩
                | 7, _ =>
                  refine StepL.val rfl [5, 6, 1] (by decide +kernel) ?_
                  intro v wx hR hd
                  have h5 : v 5 = _ := hd 5 (by simp)
                  have h6 : v 6 = _ := hd 6 (by simp)
                  have h1 : v 1 = _ := hd 1 (by simp)
                  exact ⟨hq.yes rfl rfl rfl h1, _, _, x_idx rfl (hq.at_ rfl h5) (hq.at_ rfl h6) (HX.out wx), hR, Below.refl _ _, rfl⟩
                | 8, _ =>
                  refine StepL.val rfl [4, 7, 1] (by decide +kernel) ?_
                  intro v wx hR hd
                  have h4 : v 4 = _ := hd 4 (by simp)
                  have h7 : v 7 = _ := hd 7 (by simp)
                  have h1 : v 1 = _ := hd 1 (by simp)
                  exact ⟨hq.yes rfl rfl rfl h1, _, _, x_bin rfl (hq.at_ rfl h4) (hq.at_ rfl h7) (r_eql rfl), hR, Below.refl _ _, rfl⟩
                | 9, _ =>
                  refine StepL.val rfl [1, 8] (by decide +kernel) ?_
                  intro v wx hR hd
                  have h1 : v 1 = _ := hd 1 (by simp)
                  have h8 : v 8 = _ := hd 8 (by simp)
                  exact ⟨wanted_plain rfl _, _, _, x_pick_no rfl (hq.at_ rfl h1) (hq.at_ rfl h8), hR, Below.refl _ _, rfl⟩
                | rz + 10, h => omega
              · intro v wx hR hV
                have h9 : v 9 = _ := hV 9 (by omega)
                simp only [fillR, Act.put, List.setIfInBounds_toArray, List.set_cons_zero, List.set_cons_succ, List.drop_succ_cons, List.drop_zero, h9]
                have HR := Lib.hid (HY.out.trans (hR.mono HY.out.size))
                clear hV hR
                go_wp2_with fail
                exact ⟨⟨k + 1, _, by omega, by go_num, rfl, Lib.hid (by rw [any_next, ← HFD.out]; rfl), HR⟩, by simp [intOf]; omega⟩
          · obtain rfl : k = 39 := by omega
            cases fd with
            | true =>
              have HQ : Hid (isSg c = true) := Lib.hid (by rw [← HC.out.2, ← HFD.out])
              go_wp2_with fail
              exact ⟨⟨i + 1, by omega, by go_num, Lib.hid (fun j hj => by
                by_cases h : j < i
                · exact HI.out j h
                · obtain rfl : j = i := by omega
                  rw [← HC.out.1]
                  exact HQ.out), HY⟩, by simp [intOf]; omega⟩
            | false =>
              have HQ : Hid (pnameB t = false) := Lib.hid (by rw [HA.out]; exact all_not hlt (by rw [← HC.out.1, ← HC.out.2, ← HFD.out]))
              go_wp2_with fail
              (try rw [Exit.noGoto_ret])
              go_ret
              exact ⟨pret_bool (by rw [HQ.out]), HY.out⟩
      · obtain rfl : i = t.size := by omega
        have HQ : Hid (pnameB t = true) := Lib.hid (by rw [HA.out]; exact all_at HI.out)
        go_wp2_with fail
        go_ret
        exact ⟨pret_bool (by rw [HQ.out]), HW.out⟩
end Go.Proofs.YtlpljedacohngaaGreatDoor
end
