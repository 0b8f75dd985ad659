/-
  ToConn: a connection of the document's, there. No condition.
-/
import Derived.Test.YtmdiajmjmkmnoaaGreatDoorSCut
set_option linter.unusedSimpArgs false
set_option linter.unusedVariables false
set_option maxRecDepth 100000
namespace Go.Proofs.YtmdiajmjmkmnoaaGreatDoor
open Go.RowKit

abbrev cnV (pa pn sa sn it : ByteArray) : Value := .agg #[.string pa, .string pn, .string sa, .string sn, .string it]
theorem build_pair (W : World) (a b : ByteArray) : (Instr.build 25 #[(0, .string a), (1, .string b)]).run Tryz.prog W = .ok (.agg #[.string a, .string b]) W := by kernel_rfl
theorem build_conn (W : World) (a b c d e : ByteArray) : (Instr.build 49 #[(0, .agg #[.string a, .string b]), (1, .agg #[.string c, .string d]), (2, .string e)]).run Tryz.prog W = .ok (cnV a b c d e) W := by kernel_rfl

set_option maxHeartbeats 4000000 in
set_option maxRecDepth 100000 in
theorem toconn_any (w : World) (pa pn sa sn it : ByteArray) :
    Calls Tryz.prog 13 #[cnV pa pn sa sn it] w fun e w' => e = .returned (cnV (cutS pa) (cutS pn) (cutS sa) (cutS sn) (cutS it)) ∧ Below w.heap.size w w' := by
  have hB := pthen (pnew w (.cells #[.string pa, .string pn, .string sa, .string sn, .string it] 27)) (pnew _ (.cells #[.string ⟨#[]⟩, .string ⟨#[]⟩, .string ⟨#[]⟩, .string ⟨#[]⟩, .string ⟨#[]⟩] 49))
  have hk := (Blk.new w 27 [.string pa, .string pn, .string sa, .string sn, .string it]).alloc (.cells #[.string ⟨#[]⟩, .string ⟨#[]⟩, .string ⟨#[]⟩, .string ⟨#[]⟩, .string ⟨#[]⟩] 49)
  have hz := Blk.new (w.alloc (.cells #[.string pa, .string pn, .string sa, .string sn, .string it] 27)) 49 [.string ⟨#[]⟩, .string ⟨#[]⟩, .string ⟨#[]⟩, .string ⟨#[]⟩, .string ⟨#[]⟩]
  have hsz : (w.alloc (.cells #[.string pa, .string pn, .string sa, .string sn, .string it] 27)).heap.size = w.heap.size + 1 := by simp
  rw [hsz] at hz
  obtain ⟨w1, hw1⟩ : ∃ w1, w1 = (w.alloc (.cells #[.string pa, .string pn, .string sa, .string sn, .string it] 27)).alloc (.cells #[.string ⟨#[]⟩, .string ⟨#[]⟩, .string ⟨#[]⟩, .string ⟨#[]⟩, .string ⟨#[]⟩] 49) := ⟨_, rfl⟩
  rw [← hw1] at hB hk hz
  have e0 := hk.cell 0
  have e1 := hk.cell 1
  have e2 := hk.cell 2
  have e3 := hk.cell 3
  have e4 := hk.cell 4
  simp only [List.getElem?_cons_succ, List.getElem?_cons_zero] at e0 e1 e2 e3 e4
  have H1 := Lib.hid (And.intro hB hz)
  have HW1 := Lib.hid hw1
  clear hB hk hz hw1 hsz
  go_enter Tryz.func13, Tryz.ntmps13
  go_wp2_with fail
  rw [← HW1.out]
  refine wp_hideQ ?_
  intro QQ hQQ
  refine wp_region_quickT [some 3, some 4, some 5, some 6, some 7, some 8, some 9, some 10, some 11, some 12, some 13, some 14, some 15, some 16, some 17, some 18, some 19, some 20, some 21, some 22, some 23, some 24] [isV (.pointer (some ⟨w.heap.size, 0, none⟩)), isV (.pointer (some ⟨w.heap.size, 0, none⟩)), isV (.string pa), isV (.string (cutS pa)), isV (.pointer (some ⟨w.heap.size, 0, none⟩)), isV (.pointer (some ⟨w.heap.size, 1, none⟩)), isV (.string pn), isV (.string (cutS pn)), isV (.agg #[.string (cutS pa), .string (cutS pn)]), isV (.pointer (some ⟨w.heap.size, 2, none⟩)), isV (.pointer (some ⟨w.heap.size, 2, none⟩)), isV (.string sa), isV (.string (cutS sa)), isV (.pointer (some ⟨w.heap.size, 2, none⟩)), isV (.pointer (some ⟨w.heap.size, 3, none⟩)), isV (.string sn), isV (.string (cutS sn)), isV (.agg #[.string (cutS sa), .string (cutS sn)]), isV (.pointer (some ⟨w.heap.size, 4, none⟩)), isV (.string it), isV (.string (cutS it)), isV (cnV (cutS pa) (cutS pn) (cutS sa) (cutS sn) (cutS it))] 22 23 (by kernel_rfl) rfl rfl rfl rfl (by kernel_rfl) (by kernel_rfl) (by simp [isV.st]) ?_ ?_
  · intro hq rz hz
    match rz, hz with
    | 0, _ =>
      refine StepL.val rfl [] (by decide +kernel) ?_
      intro v wx hR hd
      exact ⟨wanted_plain rfl _, _, _, x_field rfl (fill_off rfl rfl) (r_field (off := 0) (by kernel_rfl)), hR, Below.refl _ _, rfl⟩
    | 1, _ =>
      refine StepL.val rfl [0] (by decide +kernel) ?_
      intro v wx hR hd
      have h0 : v 0 = _ := hd 0 (by simp)
      exact ⟨wanted_plain rfl _, xe_ex (x_index rfl (hq.at_ rfl h0) rfl (z := .pointer (some ⟨w.heap.size, 0, none⟩)) (by kernel_rfl)) ⟨hR, Below.refl _ _, rfl⟩⟩
    | 2, _ =>
      refine StepL.val rfl [1] (by decide +kernel) ?_
      intro v wx hR hd
      have h1 : v 1 = _ := hd 1 (by simp)
      exact ⟨wanted_plain rfl _, _, _, x_load rfl (hq.at_ rfl h1) (r_load (by kernel_rfl) (pcell_below e0 hR)), hR, Below.refl _ _, rfl⟩
    | 3, _ =>
      refine StepL.call rfl [2] (by decide +kernel) ?_
      intro v wx hR hd
      have h2 : v 2 = _ := hd 2 (by simp)
      refine ⟨wanted_plain rfl _, 28, _, _, x_call rfl rfl (args_1 (hq.at_ rfl h2)) (by kernel_rfl) rfl, ?_⟩
      refine (cut10_any _ _).mono ?_
      rintro e w' ⟨rfl, rfl⟩
      exact ⟨_, rfl, hR, Below.refl _ _, rfl⟩
    | 4, _ =>
      refine StepL.val rfl [] (by decide +kernel) ?_
      intro v wx hR hd
      exact ⟨wanted_plain rfl _, _, _, x_field rfl (fill_off rfl rfl) (r_field (off := 0) (by kernel_rfl)), hR, Below.refl _ _, rfl⟩
    | 5, _ =>
      refine StepL.val rfl [4] (by decide +kernel) ?_
      intro v wx hR hd
      have h4 : v 4 = _ := hd 4 (by simp)
      exact ⟨wanted_plain rfl _, xe_ex (x_index rfl (hq.at_ rfl h4) rfl (z := .pointer (some ⟨w.heap.size, 1, none⟩)) (by kernel_rfl)) ⟨hR, Below.refl _ _, rfl⟩⟩
    | 6, _ =>
      refine StepL.val rfl [5] (by decide +kernel) ?_
      intro v wx hR hd
      have h5 : v 5 = _ := hd 5 (by simp)
      exact ⟨wanted_plain rfl _, _, _, x_load rfl (hq.at_ rfl h5) (r_load (by kernel_rfl) (pcell_below e1 hR)), hR, Below.refl _ _, rfl⟩
    | 7, _ =>
      refine StepL.call rfl [6] (by decide +kernel) ?_
      intro v wx hR hd
      have h6 : v 6 = _ := hd 6 (by simp)
      refine ⟨wanted_plain rfl _, 28, _, _, x_call rfl rfl (args_1 (hq.at_ rfl h6)) (by kernel_rfl) rfl, ?_⟩
      refine (cut10_any _ _).mono ?_
      rintro e w' ⟨rfl, rfl⟩
      exact ⟨_, rfl, hR, Below.refl _ _, rfl⟩
    | 8, _ =>
      refine StepL.val rfl [3, 7] (by decide +kernel) ?_
      intro v wx hR hd
      have h3 : v 3 = _ := hd 3 (by simp)
      have h7 : v 7 = _ := hd 7 (by simp)
      exact ⟨wanted_plain rfl _, xe_ex (x_build rfl (pairs_2 (hq.at_ rfl h3) (hq.at_ rfl h7)) (build_pair wx _ _)) ⟨hR, Below.refl _ _, rfl⟩⟩
    | 9, _ =>
      refine StepL.val rfl [] (by decide +kernel) ?_
      intro v wx hR hd
      exact ⟨wanted_plain rfl _, _, _, x_field rfl (fill_off rfl rfl) (r_field (off := 2) (by kernel_rfl)), hR, Below.refl _ _, rfl⟩
    | 10, _ =>
      refine StepL.val rfl [9] (by decide +kernel) ?_
      intro v wx hR hd
      have h9 : v 9 = _ := hd 9 (by simp)
      exact ⟨wanted_plain rfl _, xe_ex (x_index rfl (hq.at_ rfl h9) rfl (z := .pointer (some ⟨w.heap.size, 2, none⟩)) (by kernel_rfl)) ⟨hR, Below.refl _ _, rfl⟩⟩
    | 11, _ =>
      refine StepL.val rfl [10] (by decide +kernel) ?_
      intro v wx hR hd
      have h10 : v 10 = _ := hd 10 (by simp)
      exact ⟨wanted_plain rfl _, _, _, x_load rfl (hq.at_ rfl h10) (r_load (by kernel_rfl) (pcell_below e2 hR)), hR, Below.refl _ _, rfl⟩
    | 12, _ =>
      refine StepL.call rfl [11] (by decide +kernel) ?_
      intro v wx hR hd
      have h11 : v 11 = _ := hd 11 (by simp)
      refine ⟨wanted_plain rfl _, 28, _, _, x_call rfl rfl (args_1 (hq.at_ rfl h11)) (by kernel_rfl) rfl, ?_⟩
      refine (cut10_any _ _).mono ?_
      rintro e w' ⟨rfl, rfl⟩
      exact ⟨_, rfl, hR, Below.refl _ _, rfl⟩
    | 13, _ =>
      refine StepL.val rfl [] (by decide +kernel) ?_
      intro v wx hR hd
      exact ⟨wanted_plain rfl _, _, _, x_field rfl (fill_off rfl rfl) (r_field (off := 2) (by kernel_rfl)), hR, Below.refl _ _, rfl⟩
    | 14, _ =>
      refine StepL.val rfl [13] (by decide +kernel) ?_
      intro v wx hR hd
      have h13 : v 13 = _ := hd 13 (by simp)
      exact ⟨wanted_plain rfl _, xe_ex (x_index rfl (hq.at_ rfl h13) rfl (z := .pointer (some ⟨w.heap.size, 3, none⟩)) (by kernel_rfl)) ⟨hR, Below.refl _ _, rfl⟩⟩
    | 15, _ =>
      refine StepL.val rfl [14] (by decide +kernel) ?_
      intro v wx hR hd
      have h14 : v 14 = _ := hd 14 (by simp)
      exact ⟨wanted_plain rfl _, _, _, x_load rfl (hq.at_ rfl h14) (r_load (by kernel_rfl) (pcell_below e3 hR)), hR, Below.refl _ _, rfl⟩
    | 16, _ =>
      refine StepL.call rfl [15] (by decide +kernel) ?_
      intro v wx hR hd
      have h15 : v 15 = _ := hd 15 (by simp)
      refine ⟨wanted_plain rfl _, 28, _, _, x_call rfl rfl (args_1 (hq.at_ rfl h15)) (by kernel_rfl) rfl, ?_⟩
      refine (cut10_any _ _).mono ?_
      rintro e w' ⟨rfl, rfl⟩
      exact ⟨_, rfl, hR, Below.refl _ _, rfl⟩
    | 17, _ =>
      refine StepL.val rfl [12, 16] (by decide +kernel) ?_
      intro v wx hR hd
      have h12 : v 12 = _ := hd 12 (by simp)
      have h16 : v 16 = _ := hd 16 (by simp)
      exact ⟨wanted_plain rfl _, xe_ex (x_build rfl (pairs_2 (hq.at_ rfl h12) (hq.at_ rfl h16)) (build_pair wx _ _)) ⟨hR, Below.refl _ _, rfl⟩⟩
    | 18, _ =>
      refine StepL.val rfl [] (by decide +kernel) ?_
      intro v wx hR hd
      exact ⟨wanted_plain rfl _, _, _, x_field rfl (fill_off rfl rfl) (r_field (off := 4) (by kernel_rfl)), hR, Below.refl _ _, rfl⟩
    | 19, _ =>
      refine StepL.val rfl [18] (by decide +kernel) ?_
      intro v wx hR hd
      have h18 : v 18 = _ := hd 18 (by simp)
      exact ⟨wanted_plain rfl _, _, _, x_load rfl (hq.at_ rfl h18) (r_load (by kernel_rfl) (pcell_below e4 hR)), hR, Below.refl _ _, rfl⟩
    | 20, _ =>
      refine StepL.call rfl [19] (by decide +kernel) ?_
      intro v wx hR hd
      have h19 : v 19 = _ := hd 19 (by simp)
      refine ⟨wanted_plain rfl _, 28, _, _, x_call rfl rfl (args_1 (hq.at_ rfl h19)) (by kernel_rfl) rfl, ?_⟩
      refine (cut10_any _ _).mono ?_
      rintro e w' ⟨rfl, rfl⟩
      exact ⟨_, rfl, hR, Below.refl _ _, rfl⟩
    | 21, _ =>
      refine StepL.val rfl [8, 17, 20] (by decide +kernel) ?_
      intro v wx hR hd
      have h8 : v 8 = _ := hd 8 (by simp)
      have h17 : v 17 = _ := hd 17 (by simp)
      have h20 : v 20 = _ := hd 20 (by simp)
      exact ⟨wanted_plain rfl _, xe_ex (x_build rfl (pairs_3 (hq.at_ rfl h8) (hq.at_ rfl h17) (hq.at_ rfl h20)) (build_conn wx _ _ _ _ _)) ⟨hR, Below.refl _ _, rfl⟩⟩
    | rz + 22, h => omega
  · intro v wx hR hV
    have h21 : v 21 = _ := hV 21 (by omega)
    have hz := H1.out.2.below hR H1.out.2.lt
    have hbx := H1.out.1.trans (hR.mono H1.out.1.size)
    clear hV hR
    simp only [fillR, Act.put, List.setIfInBounds_toArray, List.set_cons_zero, List.set_cons_succ, List.drop_succ_cons, List.drop_zero, h21]
    refine wpList_store_blk rfl 49 (.tmp 2) (.tmp 24) rfl (w.heap.size + 1) 0 [.string (cutS pa), .string (cutS pn), .string (cutS sa), .string (cutS sn), .string (cutS it)] rfl rfl hz (by simp) (by kernel_rfl) (by intro u hu; simp at hu; rcases hu with rfl | rfl | rfl | rfl | rfl <;> rfl) ?_
    intro w2 hA hO
    rw [over_whole (by simp)] at hA
    have d0 := hA.cell 0
    have d1 := hA.cell 1
    have d2 := hA.cell 2
    have d3 := hA.cell 3
    have d4 := hA.cell 4
    simp only [List.getElem?_cons_succ, List.getElem?_cons_zero] at d0 d1 d2 d3 d4
    have HE := Lib.hid (hbx.trans (hO.below hbx.size (by simp)))
    clear hA hO hbx hz e0 e1 e2 e3 e4
    go_wp2_with fail
    refine bodyPost_ret (v := cnV (cutS pa) (cutS pn) (cutS sa) (cutS sn) (cutS it)) (by simp [results, Tryz.results13, go_sem, d0, d1, d2, d3, d4]) rfl ⟨rfl, HE.out⟩
end Go.Proofs.YtmdiajmjmkmnoaaGreatDoor
