/-
  rising: whether numbers and sizes are as they must be, and numbers rise. Condition: the revisions lie in memory.
-/
import Derived.Test.YtmdiajmjmkmnoaaGreatDoorSMem
set_option linter.unusedSimpArgs false
set_option linter.unusedVariables false
set_option maxRecDepth 100000
namespace Go.Proofs.YtmdiajmjmkmnoaaGreatDoor
open Go.RowKit

set_option maxHeartbeats 1000000 in
set_option maxRecDepth 100000 in
theorem rising_any (w : World) (A : Option Addr) (n c : Nat) (rs : List RevR) (h : RIn w A n c rs) : Calls Tryz.prog 44 #[.slice A n c] w fun e w' => e = .returned (.bool (risingB 0 rs)) ∧ Below w.heap.size w w' := by
  have hbig := h.big
  have H := Lib.hid h
  clear h
  go_enter Tryz.func44, Tryz.ntmps44
  go_wp2_with fail
  go_loopw [3, 8] (fun lv iv wr => ∃ (i : Nat) (last : Int), i ≤ n ∧ iv = .int .i64 i ∧ lv = .int .i64 last ∧ Hid (risingB 0 rs = risingB last (rs.drop i)) ∧ Hid (Below w.heap.size w wr)) (fun _ iv _ => n - (intOf iv).toNat)
  case atStart => exact ⟨0, 0, by omega, rfl, rfl, Lib.hid rfl, Lib.hid (Below.refl _ _)⟩
  case round =>
    obtain ⟨i, last, hi, rfl, rfl, HK, HW⟩ := hrel
    by_cases hlt : i < n
    · obtain ⟨r, hr⟩ : ∃ r, rs[i]? = some r := ⟨_, List.getElem?_eq_getElem (by have := H.out.len; omega)⟩
      have hs := H.out.seals r (List.mem_of_getElem? hr)
      obtain ⟨g, o, rfl, hg, hc⟩ := (H.out.below HW.out).cells (by omega)
      have HC := Lib.hid (hc i r hr)
      have HD : Hid (risingB last (rs.drop i) = (oneB last r.no r.size && risingB r.no (rs.drop (i + 1)))) := Lib.hid (by
        obtain ⟨h1, h2⟩ := List.getElem?_eq_some_iff.1 hr
        rw [List.drop_eq_getElem_cons h1, h2]
        rfl)
      have HS := Lib.hid hs
      clear hr hc hs
      obtain ⟨no, hno⟩ : ∃ x, x = r.no := ⟨_, rfl⟩
      obtain ⟨sz, hsz⟩ : ∃ x, x = r.size := ⟨_, rfl⟩
      rw [← hno, ← hsz] at HD
      go_wp2_with (first
        | (refine wpList_load_mid rfl 76 (.tmp 10) rfl g (o + i * 34) rfl _ _ HC.out Tryz.underlying76 rfl (infoRev.trans (by rw [rvC_length HS.out])) ?_)
        | (refine wpList_store_blk rfl 76 (.tmp 5) (.tmp 11) rfl wr.heap.size 0 (rvC r) rfl rfl (Blk.new wr 76 zeroRev) (by rw [rvC_length HS.out]; decide) (infoRev.trans (by rw [rvC_length HS.out])) (rvC_one r) ?_; intro w2 hA hO; rw [over_whole (by rw [rvC_length HS.out]; rfl)] at hA; have c0 := (hA.cell 0).trans (rvC_no r); have c33 := (hA.cell 33).trans (rvC_size HS.out); rw [← hno] at c0; rw [← hsz] at c33; have H2 := Lib.hid (HW.out.trans (((pnew _ _).trans (hO.below (B := wr.heap.size) (by simp) (by simp))).mono HW.out.size)); clear hA hO))
      case roundEnd => exact ⟨⟨i + 1, no, by omega, by go_num, by rw [hno], Lib.hid (by rw [HK.out, HD.out, oneB_yes (by omega)]; rfl), H2⟩, by simp [intOf]; omega⟩
      all_goals go_ret
      all_goals exact ⟨pret_bool (by rw [HK.out, HD.out, oneB_no (by omega)]; rfl), H2.out⟩
    · obtain rfl : i = n := by omega
      have hq : risingB 0 rs = true := by
        rw [HK.out, List.drop_eq_nil_of_le (by have := H.out.len; omega)]
        rfl
      have HQ := Lib.hid hq
      clear hq
      go_wp2_with fail
      go_ret
      exact ⟨by rw [HQ.out]; rfl, HW.out⟩
end Go.Proofs.YtmdiajmjmkmnoaaGreatDoor
