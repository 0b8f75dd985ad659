/-
  Whether two lists of the document's entries are the same. Condition: the entries lie in memory.
-/
import Derived.Test.YtlpljedacohngaaGreatDoorM19
import Derived.Test.YtlpljedacohngaaGreatDoorM4
import Derived.Test.YtlpljedacohngaaGreatDoorM22
section
set_option linter.unusedSimpArgs false
set_option linter.unusedVariables false
set_option maxRecDepth 100000
namespace Go.Proofs.YtlpljedacohngaaGreatDoor
open Go.RowKit

theorem en_ne2 {p q : List En} {i : Nat} {a b : En} (h1 : p[i]? = some a) (h2 : q[i]? = some b) (h : ¬ a = b) : decide (p = q) = false := by
  refine decide_eq_false fun e => ?_
  subst e
  rw [h1] at h2
  cases h2
  exact h rfl
set_option maxHeartbeats 8000000 in
theorem rsame12_any (w : World) (A : Option Addr) (n c : Nat) (xs : List Ev) (es : List En) (h : EIn w A n c xs es) (B : Option Addr) (m d : Nat) (ys : List Ev) (fs : List En) (k : EIn w B m d ys fs) :
    Calls Tryz.prog 7 #[.slice A n c, .slice B m d] w fun e w' => e = .returned (.bool (decide (es = fs))) ∧ Below w.heap.size w w' := by
  have hbig : n ≤ 9223372036854775807 := by have := h.cap; have := h.big; omega
  have hbig2 : m ≤ 9223372036854775807 := by have := k.cap; have := k.big; omega
  have H := Lib.hid (And.intro h k)
  have HL := Lib.hid (And.intro h.elen k.elen)
  clear h k
  by_cases hnm : n = m
  · subst hnm
    go_enter Tryz.func7, Tryz.ntmps7
    go_wp2_with fail
    go_loopw [5] (fun iv wr => ∃ i : Nat, i ≤ n ∧ iv = .int .i64 i ∧ Hid (∀ (j : Nat) t u, j < i → es[j]? = some t → fs[j]? = some u → t = u) ∧ Hid (Below w.heap.size w wr)) (fun iv _ => n - (intOf iv).toNat)
    case atStart => exact ⟨0, by omega, rfl, Lib.hid (fun j t u h => absurd h (by omega)), Lib.hid (Below.refl _ _)⟩
    case round =>
      obtain ⟨i, hi, rfl, HK, HW⟩ := hrel
      by_cases hlt : i < n
      · obtain ⟨g, o, x, a, rfl, hg, hx, ha, hok, hcl⟩ := (H.out.1.below HW.out).row hlt
        obtain ⟨g2, o2, y, b, rfl, hg2, hy, hb, hok2, hcl2⟩ := (H.out.2.below HW.out).row hlt
        have q0 : wr.cell? ⟨g, o + i * 4, none⟩ = some (.slice x.PA x.pn x.pc) := hcl 0 _ rfl
        have q1 : wr.cell? ⟨g, o + i * 4 + 1, none⟩ = some (.int .i64 x.k) := hcl 1 _ rfl
        have q2 : wr.cell? ⟨g, o + i * 4 + 2, none⟩ = some (.int .i64 x.m) := hcl 2 _ rfl
        have q3 : wr.cell? ⟨g, o + i * 4 + 3, none⟩ = some (.slice x.DA x.dn x.dc) := hcl 3 _ rfl
        have s0 : wr.cell? ⟨g2, o2 + i * 4, none⟩ = some (.slice y.PA y.pn y.pc) := hcl2 0 _ rfl
        have s1 : wr.cell? ⟨g2, o2 + i * 4 + 1, none⟩ = some (.int .i64 y.k) := hcl2 1 _ rfl
        have s2 : wr.cell? ⟨g2, o2 + i * 4 + 2, none⟩ = some (.int .i64 y.m) := hcl2 2 _ rfl
        have s3 : wr.cell? ⟨g2, o2 + i * 4 + 3, none⟩ = some (.slice y.DA y.dn y.dc) := hcl2 3 _ rfl
        have HC := Lib.hid (And.intro hok hok2)
        have HT := Lib.hid (And.intro ha hb)
        have b0 : (0 : Int) ≤ (i : Int) := by omega
        have b1 : (i : Int) < (n : Int) := by omega
        clear hx ha hok hcl hy hb hok2 hcl2 hg hg2
        go_wp2_with fail
        cases hp : decide (a.path = b.path) with
        | false =>
          refine wp_hideQ ?_
          intro QQ hQQ
          refine wp_region_quick [some 17, some 18, some 19, some 20, some 21, some 22, some 23, some 24, some 25, some 26, some 27, some 28, some 29, some 30, some 31, some 32, some 33, some 34, some 35, some 36, some 37, some 38, some 39, some 40, some 41, some 42, some 43, some 44, some 45, some 46, some 47, some 48, some 49, some 50, some 51, some 52, some 53, some 54, some 55, some 56, some 57, some 58, some 59, some 60, some 61, some 62, some 63, some 64, some 65, some 66, some 67, some 68] [isV (.slice (some ⟨g, o, none⟩) n c), isV (.int .i64 (i : Int)), isV (.pointer (some ⟨g, o + i * 4, none⟩)), isV (.pointer (some ⟨g, o + i * 4, none⟩)), isV (.slice x.PA x.pn x.pc), isV (.slice (some ⟨g2, o2, none⟩) n d), isV (.int .i64 (i : Int)), isV (.pointer (some ⟨g2, o2 + i * 4, none⟩)), isV (.pointer (some ⟨g2, o2 + i * 4, none⟩)), isV (.slice y.PA y.pn y.pc), isV (.bool false), isV (.bool true), isV (.bool true), isV (undef), isV (undef), isV (undef), isV (undef), isV (undef), isV (undef), isV (undef), isV (undef), isV (undef), isV (undef), isV (undef), isV (.bool true), isV (.bool true), isV (undef), isV (undef), isV (undef), isV (undef), isV (undef), isV (undef), isV (undef), isV (undef), isV (undef), isV (undef), isV (undef), isV (.bool true), isV (.bool true), isV (undef), isV (undef), isV (undef), isV (undef), isV (undef), isV (undef), isV (undef), isV (undef), isV (undef), isV (undef), isV (undef), isV (undef), isV (.bool true)] 52 (by kernel_rfl) rfl rfl rfl (by kernel_rfl) (by simp [isV.st]) ?_ ?_
          · intro hq rz hz
            match rz, hz with
            | 0, _ =>
              refine StepL.val rfl [] (by decide +kernel) ?_
              intro v wx hR hd
              exact ⟨wanted_plain rfl _, _, _, x_move rfl (fill_off rfl rfl), hR, Below.refl _ _, rfl⟩
            | 1, _ =>
              refine StepL.val rfl [] (by decide +kernel) ?_
              intro v wx hR hd
              exact ⟨wanted_plain rfl _, _, _, x_move rfl (fill_off rfl rfl), hR, Below.refl _ _, rfl⟩
            | 2, _ =>
              refine StepL.val rfl [0, 1] (by decide +kernel) ?_
              intro v wx hR hd
              have h0 : v 0 = _ := hd 0 (by simp)
              have h1 : v 1 = _ := hd 1 (by simp)
              exact ⟨wanted_plain rfl _, _, _, x_index rfl (hq.at_ rfl h0) (hq.at_ rfl h1) (r_index (e := 54) (size := 4) (by kernel_rfl) (by kernel_rfl) (by omega) (by omega) (by first | omega | simp)), hR, Below.refl _ _, rfl⟩
            | 3, _ =>
              refine StepL.val rfl [2] (by decide +kernel) ?_
              intro v wx hR hd
              have h2 : v 2 = _ := hd 2 (by simp)
              exact ⟨wanted_plain rfl _, _, _, x_field rfl (hq.at_ rfl h2) (r_field (off := 0) (by kernel_rfl)), hR, Below.refl _ _, rfl⟩
            | 4, _ =>
              refine StepL.val rfl [3] (by decide +kernel) ?_
              intro v wx hR hd
              have h3 : v 3 = _ := hd 3 (by simp)
              exact ⟨wanted_plain rfl _, _, _, x_load rfl (hq.at_ rfl h3) (r_load (by kernel_rfl) (pcell_below q0 hR)), hR, Below.refl _ _, rfl⟩
            | 5, _ =>
              refine StepL.val rfl [] (by decide +kernel) ?_
              intro v wx hR hd
              exact ⟨wanted_plain rfl _, _, _, x_move rfl (fill_off rfl rfl), hR, Below.refl _ _, rfl⟩
            | 6, _ =>
              refine StepL.val rfl [] (by decide +kernel) ?_
              intro v wx hR hd
              exact ⟨wanted_plain rfl _, _, _, x_move rfl (fill_off rfl rfl), hR, Below.refl _ _, rfl⟩
            | 7, _ =>
              refine StepL.val rfl [5, 6] (by decide +kernel) ?_
              intro v wx hR hd
              have h5 : v 5 = _ := hd 5 (by simp)
              have h6 : v 6 = _ := hd 6 (by simp)
              exact ⟨wanted_plain rfl _, _, _, x_index rfl (hq.at_ rfl h5) (hq.at_ rfl h6) (r_index (e := 54) (size := 4) (by kernel_rfl) (by kernel_rfl) (by omega) (by omega) (by first | omega | simp)), hR, Below.refl _ _, rfl⟩
            | 8, _ =>
              refine StepL.val rfl [7] (by decide +kernel) ?_
              intro v wx hR hd
              have h7 : v 7 = _ := hd 7 (by simp)
              exact ⟨wanted_plain rfl _, _, _, x_field rfl (hq.at_ rfl h7) (r_field (off := 0) (by kernel_rfl)), hR, Below.refl _ _, rfl⟩
            | 9, _ =>
              refine StepL.val rfl [8] (by decide +kernel) ?_
              intro v wx hR hd
              have h8 : v 8 = _ := hd 8 (by simp)
              exact ⟨wanted_plain rfl _, _, _, x_load rfl (hq.at_ rfl h8) (r_load (by kernel_rfl) (pcell_below s0 hR)), hR, Below.refl _ _, rfl⟩
            | 10, _ =>
              refine StepL.call rfl [4, 9] (by decide +kernel) ?_
              intro v wx hR hd
              have h4 : v 4 = _ := hd 4 (by simp)
              have h9 : v 9 = _ := hd 9 (by simp)
              refine ⟨wanted_plain rfl _, 19, _, _, x_call rfl rfl (args_2 (hq.at_ rfl h4) (hq.at_ rfl h9)) (by kernel_rfl) rfl, ?_⟩
              refine (rsame05_any wx _ _ _ _ _ _ _ _ (HC.out.1.path.below hR) (HC.out.2.path.below hR)).mono ?_
              rintro e w' ⟨rfl, hW⟩
              exact ⟨.bool false, by rw [hp], hR.trans (hW.mono hR.size), hW, rfl⟩
            | 11, _ =>
              refine StepL.val rfl [10] (by decide +kernel) ?_
              intro v wx hR hd
              have h10 : v 10 = _ := hd 10 (by simp)
              exact ⟨wanted_plain rfl _, _, _, x_un rfl (hq.at_ rfl h10) (r_not rfl), hR, Below.refl _ _, rfl⟩
            | 12, _ =>
              refine StepL.val rfl [11] (by decide +kernel) ?_
              intro v wx hR hd
              have h11 : v 11 = _ := hd 11 (by simp)
              exact ⟨wanted_plain rfl _, _, _, x_move rfl (hq.at_ rfl h11), hR, Below.refl _ _, rfl⟩
            | 13, _ =>
              refine StepL.skip rfl [12] (by decide +kernel) ?_
              intro v wx hR hd
              have h12 : v 12 = _ := hd 12 (by simp)
              exact ⟨hq.no rfl rfl rfl h12 rfl, Below.refl _ _, rfl⟩
            | 14, _ =>
              refine StepL.skip rfl [12] (by decide +kernel) ?_
              intro v wx hR hd
              have h12 : v 12 = _ := hd 12 (by simp)
              exact ⟨hq.no rfl rfl rfl h12 rfl, Below.refl _ _, rfl⟩
            | 15, _ =>
              refine StepL.skip rfl [12] (by decide +kernel) ?_
              intro v wx hR hd
              have h12 : v 12 = _ := hd 12 (by simp)
              exact ⟨hq.no rfl rfl rfl h12 rfl, Below.refl _ _, rfl⟩
            | 16, _ =>
              refine StepL.skip rfl [12] (by decide +kernel) ?_
              intro v wx hR hd
              have h12 : v 12 = _ := hd 12 (by simp)
              exact ⟨hq.no rfl rfl rfl h12 rfl, Below.refl _ _, rfl⟩
            | 17, _ =>
              refine StepL.skip rfl [12] (by decide +kernel) ?_
              intro v wx hR hd
              have h12 : v 12 = _ := hd 12 (by simp)
              exact ⟨hq.no rfl rfl rfl h12 rfl, Below.refl _ _, rfl⟩
            | 18, _ =>
              refine StepL.skip rfl [12] (by decide +kernel) ?_
              intro v wx hR hd
              have h12 : v 12 = _ := hd 12 (by simp)
              exact ⟨hq.no rfl rfl rfl h12 rfl, Below.refl _ _, rfl⟩
            | 19, _ =>
              refine StepL.skip rfl [12] (by decide +kernel) ?_
              intro v wx hR hd
              have h12 : v 12 = _ := hd 12 (by simp)
              exact ⟨hq.no rfl rfl rfl h12 rfl, Below.refl _ _, rfl⟩
            | 20, _ =>
              refine StepL.skip rfl [12] (by decide +kernel) ?_
              intro v wx hR hd
              have h12 : v 12 = _ := hd 12 (by simp)
              exact ⟨hq.no rfl rfl rfl h12 rfl, Below.refl _ _, rfl⟩
            | 21, _ =>
              refine StepL.skip rfl [12] (by decide +kernel) ?_
              intro v wx hR hd
              have h12 : v 12 = _ := hd 12 (by simp)
              exact ⟨hq.no rfl rfl rfl h12 rfl, Below.refl _ _, rfl⟩
            | 22, _ =>
              refine StepL.skip rfl [12] (by decide +kernel) ?_
              intro v wx hR hd
              have h12 : v 12 = _ := hd 12 (by simp)
              exact ⟨hq.no rfl rfl rfl h12 rfl, Below.refl _ _, rfl⟩
            | 23, _ =>
              refine StepL.skip rfl [12] (by decide +kernel) ?_
              intro v wx hR hd
              have h12 : v 12 = _ := hd 12 (by simp)
              exact ⟨hq.no rfl rfl rfl h12 rfl, Below.refl _ _, rfl⟩
            | 24, _ =>
              refine StepL.val rfl [12, 23] (by decide +kernel) ?_
              intro v wx hR hd
              have h12 : v 12 = _ := hd 12 (by simp)
              have h23 : v 23 = _ := hd 23 (by simp)
              exact ⟨wanted_plain rfl _, _, _, x_pick_yes rfl (hq.at_ rfl h12) rfl, hR, Below.refl _ _, rfl⟩
            | 25, _ =>
              refine StepL.val rfl [24] (by decide +kernel) ?_
              intro v wx hR hd
              have h24 : v 24 = _ := hd 24 (by simp)
              exact ⟨wanted_plain rfl _, _, _, x_move rfl (hq.at_ rfl h24), hR, Below.refl _ _, rfl⟩
            | 26, _ =>
              refine StepL.skip rfl [25] (by decide +kernel) ?_
              intro v wx hR hd
              have h25 : v 25 = _ := hd 25 (by simp)
              exact ⟨hq.no rfl rfl rfl h25 rfl, Below.refl _ _, rfl⟩
            | 27, _ =>
              refine StepL.skip rfl [25] (by decide +kernel) ?_
              intro v wx hR hd
              have h25 : v 25 = _ := hd 25 (by simp)
              exact ⟨hq.no rfl rfl rfl h25 rfl, Below.refl _ _, rfl⟩
            | 28, _ =>
              refine StepL.skip rfl [25] (by decide +kernel) ?_
              intro v wx hR hd
              have h25 : v 25 = _ := hd 25 (by simp)
              exact ⟨hq.no rfl rfl rfl h25 rfl, Below.refl _ _, rfl⟩
            | 29, _ =>
              refine StepL.skip rfl [25] (by decide +kernel) ?_
              intro v wx hR hd
              have h25 : v 25 = _ := hd 25 (by simp)
              exact ⟨hq.no rfl rfl rfl h25 rfl, Below.refl _ _, rfl⟩
            | 30, _ =>
              refine StepL.skip rfl [25] (by decide +kernel) ?_
              intro v wx hR hd
              have h25 : v 25 = _ := hd 25 (by simp)
              exact ⟨hq.no rfl rfl rfl h25 rfl, Below.refl _ _, rfl⟩
            | 31, _ =>
              refine StepL.skip rfl [25] (by decide +kernel) ?_
              intro v wx hR hd
              have h25 : v 25 = _ := hd 25 (by simp)
              exact ⟨hq.no rfl rfl rfl h25 rfl, Below.refl _ _, rfl⟩
            | 32, _ =>
              refine StepL.skip rfl [25] (by decide +kernel) ?_
              intro v wx hR hd
              have h25 : v 25 = _ := hd 25 (by simp)
              exact ⟨hq.no rfl rfl rfl h25 rfl, Below.refl _ _, rfl⟩
            | 33, _ =>
              refine StepL.skip rfl [25] (by decide +kernel) ?_
              intro v wx hR hd
              have h25 : v 25 = _ := hd 25 (by simp)
              exact ⟨hq.no rfl rfl rfl h25 rfl, Below.refl _ _, rfl⟩
            | 34, _ =>
              refine StepL.skip rfl [25] (by decide +kernel) ?_
              intro v wx hR hd
              have h25 : v 25 = _ := hd 25 (by simp)
              exact ⟨hq.no rfl rfl rfl h25 rfl, Below.refl _ _, rfl⟩
            | 35, _ =>
              refine StepL.skip rfl [25] (by decide +kernel) ?_
              intro v wx hR hd
              have h25 : v 25 = _ := hd 25 (by simp)
              exact ⟨hq.no rfl rfl rfl h25 rfl, Below.refl _ _, rfl⟩
            | 36, _ =>
              refine StepL.skip rfl [25] (by decide +kernel) ?_
              intro v wx hR hd
              have h25 : v 25 = _ := hd 25 (by simp)
              exact ⟨hq.no rfl rfl rfl h25 rfl, Below.refl _ _, rfl⟩
            | 37, _ =>
              refine StepL.val rfl [25, 36] (by decide +kernel) ?_
              intro v wx hR hd
              have h25 : v 25 = _ := hd 25 (by simp)
              have h36 : v 36 = _ := hd 36 (by simp)
              exact ⟨wanted_plain rfl _, _, _, x_pick_yes rfl (hq.at_ rfl h25) rfl, hR, Below.refl _ _, rfl⟩
            | 38, _ =>
              refine StepL.val rfl [37] (by decide +kernel) ?_
              intro v wx hR hd
              have h37 : v 37 = _ := hd 37 (by simp)
              exact ⟨wanted_plain rfl _, _, _, x_move rfl (hq.at_ rfl h37), hR, Below.refl _ _, rfl⟩
            | 39, _ =>
              refine StepL.skip rfl [38] (by decide +kernel) ?_
              intro v wx hR hd
              have h38 : v 38 = _ := hd 38 (by simp)
              exact ⟨hq.no rfl rfl rfl h38 rfl, Below.refl _ _, rfl⟩
            | 40, _ =>
              refine StepL.skip rfl [38] (by decide +kernel) ?_
              intro v wx hR hd
              have h38 : v 38 = _ := hd 38 (by simp)
              exact ⟨hq.no rfl rfl rfl h38 rfl, Below.refl _ _, rfl⟩
            | 41, _ =>
              refine StepL.skip rfl [38] (by decide +kernel) ?_
              intro v wx hR hd
              have h38 : v 38 = _ := hd 38 (by simp)
              exact ⟨hq.no rfl rfl rfl h38 rfl, Below.refl _ _, rfl⟩
            | 42, _ =>
              refine StepL.skip rfl [38] (by decide +kernel) ?_
              intro v wx hR hd
              have h38 : v 38 = _ := hd 38 (by simp)
              exact ⟨hq.no rfl rfl rfl h38 rfl, Below.refl _ _, rfl⟩
            | 43, _ =>
              refine StepL.skip rfl [38] (by decide +kernel) ?_
              intro v wx hR hd
              have h38 : v 38 = _ := hd 38 (by simp)
              exact ⟨hq.no rfl rfl rfl h38 rfl, Below.refl _ _, rfl⟩
            | 44, _ =>
              refine StepL.skip rfl [38] (by decide +kernel) ?_
              intro v wx hR hd
              have h38 : v 38 = _ := hd 38 (by simp)
              exact ⟨hq.no rfl rfl rfl h38 rfl, Below.refl _ _, rfl⟩
            | 45, _ =>
              refine StepL.skip rfl [38] (by decide +kernel) ?_
              intro v wx hR hd
              have h38 : v 38 = _ := hd 38 (by simp)
              exact ⟨hq.no rfl rfl rfl h38 rfl, Below.refl _ _, rfl⟩
            | 46, _ =>
              refine StepL.skip rfl [38] (by decide +kernel) ?_
              intro v wx hR hd
              have h38 : v 38 = _ := hd 38 (by simp)
              exact ⟨hq.no rfl rfl rfl h38 rfl, Below.refl _ _, rfl⟩
            | 47, _ =>
              refine StepL.skip rfl [38] (by decide +kernel) ?_
              intro v wx hR hd
              have h38 : v 38 = _ := hd 38 (by simp)
              exact ⟨hq.no rfl rfl rfl h38 rfl, Below.refl _ _, rfl⟩
            | 48, _ =>
              refine StepL.skip rfl [38] (by decide +kernel) ?_
              intro v wx hR hd
              have h38 : v 38 = _ := hd 38 (by simp)
              exact ⟨hq.no rfl rfl rfl h38 rfl, Below.refl _ _, rfl⟩
            | 49, _ =>
              refine StepL.skip rfl [38] (by decide +kernel) ?_
              intro v wx hR hd
              have h38 : v 38 = _ := hd 38 (by simp)
              exact ⟨hq.no rfl rfl rfl h38 rfl, Below.refl _ _, rfl⟩
            | 50, _ =>
              refine StepL.skip rfl [38] (by decide +kernel) ?_
              intro v wx hR hd
              have h38 : v 38 = _ := hd 38 (by simp)
              exact ⟨hq.no rfl rfl rfl h38 rfl, Below.refl _ _, rfl⟩
            | 51, _ =>
              refine StepL.val rfl [38, 50] (by decide +kernel) ?_
              intro v wx hR hd
              have h38 : v 38 = _ := hd 38 (by simp)
              have h50 : v 50 = _ := hd 50 (by simp)
              exact ⟨wanted_plain rfl _, _, _, x_pick_yes rfl (hq.at_ rfl h38) rfl, hR, Below.refl _ _, rfl⟩
            | rz + 52, h => omega
          · intro v wx hR hV
            have h51 : v 51 = _ := hV 51 (by omega)
            have HR := Lib.hid (HW.out.trans (hR.mono HW.out.size))
            simp only [fillR, Act.put, List.setIfInBounds_toArray, List.set_cons_zero, List.set_cons_succ, h51]
            clear hV hR h51 q0 q1 q2 q3 s0 s1 s2 s3
            have HQ : Hid (decide (es = fs) = false) := Lib.hid (en_ne2 HT.out.1 HT.out.2 (fun e => by exact of_decide_eq_false hp (congrArg En.path e)))
            go_wp2_with fail
            go_ret
            exact ⟨pret_bool (by rw [HQ.out]), HR.out⟩
        | true =>
          by_cases hk : x.k = y.k
          · by_cases hm : x.m = y.m
            · cases hdd : decide (a.data = b.data) with
              | false =>
                refine wp_hideQ ?_
                intro QQ hQQ
                refine wp_region_quick [some 17, some 18, some 19, some 20, some 21, some 22, some 23, some 24, some 25, some 26, some 27, some 28, some 29, some 30, some 31, some 32, some 33, some 34, some 35, some 36, some 37, some 38, some 39, some 40, some 41, some 42, some 43, some 44, some 45, some 46, some 47, some 48, some 49, some 50, some 51, some 52, some 53, some 54, some 55, some 56, some 57, some 58, some 59, some 60, some 61, some 62, some 63, some 64, some 65, some 66, some 67, some 68] [isV (.slice (some ⟨g, o, none⟩) n c), isV (.int .i64 (i : Int)), isV (.pointer (some ⟨g, o + i * 4, none⟩)), isV (.pointer (some ⟨g, o + i * 4, none⟩)), isV (.slice x.PA x.pn x.pc), isV (.slice (some ⟨g2, o2, none⟩) n d), isV (.int .i64 (i : Int)), isV (.pointer (some ⟨g2, o2 + i * 4, none⟩)), isV (.pointer (some ⟨g2, o2 + i * 4, none⟩)), isV (.slice y.PA y.pn y.pc), isV (.bool true), isV (.bool false), isV (.bool false), isV (.slice (some ⟨g, o, none⟩) n c), isV (.int .i64 (i : Int)), isV (.pointer (some ⟨g, o + i * 4, none⟩)), isV (.pointer (some ⟨g, o + i * 4 + 1, none⟩)), isV (.int .i64 x.k), isV (.slice (some ⟨g2, o2, none⟩) n d), isV (.int .i64 (i : Int)), isV (.pointer (some ⟨g2, o2 + i * 4, none⟩)), isV (.pointer (some ⟨g2, o2 + i * 4 + 1, none⟩)), isV (.int .i64 y.k), isV (.bool false), isV (.bool false), isV (.bool false), isV (.slice (some ⟨g, o, none⟩) n c), isV (.int .i64 (i : Int)), isV (.pointer (some ⟨g, o + i * 4, none⟩)), isV (.pointer (some ⟨g, o + i * 4 + 2, none⟩)), isV (.int .i64 x.m), isV (.slice (some ⟨g2, o2, none⟩) n d), isV (.int .i64 (i : Int)), isV (.pointer (some ⟨g2, o2 + i * 4, none⟩)), isV (.pointer (some ⟨g2, o2 + i * 4 + 2, none⟩)), isV (.int .i64 y.m), isV (.bool false), isV (.bool false), isV (.bool false), isV (.slice (some ⟨g, o, none⟩) n c), isV (.int .i64 (i : Int)), isV (.pointer (some ⟨g, o + i * 4, none⟩)), isV (.pointer (some ⟨g, o + i * 4 + 3, none⟩)), isV (.slice x.DA x.dn x.dc), isV (.slice (some ⟨g2, o2, none⟩) n d), isV (.int .i64 (i : Int)), isV (.pointer (some ⟨g2, o2 + i * 4, none⟩)), isV (.pointer (some ⟨g2, o2 + i * 4 + 3, none⟩)), isV (.slice y.DA y.dn y.dc), isV (.bool false), isV (.bool true), isV (.bool true)] 52 (by kernel_rfl) rfl rfl rfl (by kernel_rfl) (by simp [isV.st]) ?_ ?_
                · intro hq rz hz
                  match rz, hz with
                  | 0, _ =>
                    refine StepL.val rfl [] (by decide +kernel) ?_
                    intro v wx hR hd
                    exact ⟨wanted_plain rfl _, _, _, x_move rfl (fill_off rfl rfl), hR, Below.refl _ _, rfl⟩
                  | 1, _ =>
                    refine StepL.val rfl [] (by decide +kernel) ?_
                    intro v wx hR hd
                    exact ⟨wanted_plain rfl _, _, _, x_move rfl (fill_off rfl rfl), hR, Below.refl _ _, rfl⟩
                  | 2, _ =>
                    refine StepL.val rfl [0, 1] (by decide +kernel) ?_
                    intro v wx hR hd
                    have h0 : v 0 = _ := hd 0 (by simp)
                    have h1 : v 1 = _ := hd 1 (by simp)
                    exact ⟨wanted_plain rfl _, _, _, x_index rfl (hq.at_ rfl h0) (hq.at_ rfl h1) (r_index (e := 54) (size := 4) (by kernel_rfl) (by kernel_rfl) (by omega) (by omega) (by first | omega | simp)), hR, Below.refl _ _, rfl⟩
                  | 3, _ =>
                    refine StepL.val rfl [2] (by decide +kernel) ?_
                    intro v wx hR hd
                    have h2 : v 2 = _ := hd 2 (by simp)
                    exact ⟨wanted_plain rfl _, _, _, x_field rfl (hq.at_ rfl h2) (r_field (off := 0) (by kernel_rfl)), hR, Below.refl _ _, rfl⟩
                  | 4, _ =>
                    refine StepL.val rfl [3] (by decide +kernel) ?_
                    intro v wx hR hd
                    have h3 : v 3 = _ := hd 3 (by simp)
                    exact ⟨wanted_plain rfl _, _, _, x_load rfl (hq.at_ rfl h3) (r_load (by kernel_rfl) (pcell_below q0 hR)), hR, Below.refl _ _, rfl⟩
                  | 5, _ =>
                    refine StepL.val rfl [] (by decide +kernel) ?_
                    intro v wx hR hd
                    exact ⟨wanted_plain rfl _, _, _, x_move rfl (fill_off rfl rfl), hR, Below.refl _ _, rfl⟩
                  | 6, _ =>
                    refine StepL.val rfl [] (by decide +kernel) ?_
                    intro v wx hR hd
                    exact ⟨wanted_plain rfl _, _, _, x_move rfl (fill_off rfl rfl), hR, Below.refl _ _, rfl⟩
                  | 7, _ =>
                    refine StepL.val rfl [5, 6] (by decide +kernel) ?_
                    intro v wx hR hd
                    have h5 : v 5 = _ := hd 5 (by simp)
                    have h6 : v 6 = _ := hd 6 (by simp)
                    exact ⟨wanted_plain rfl _, _, _, x_index rfl (hq.at_ rfl h5) (hq.at_ rfl h6) (r_index (e := 54) (size := 4) (by kernel_rfl) (by kernel_rfl) (by omega) (by omega) (by first | omega | simp)), hR, Below.refl _ _, rfl⟩
                  | 8, _ =>
                    refine StepL.val rfl [7] (by decide +kernel) ?_
                    intro v wx hR hd
                    have h7 : v 7 = _ := hd 7 (by simp)
                    exact ⟨wanted_plain rfl _, _, _, x_field rfl (hq.at_ rfl h7) (r_field (off := 0) (by kernel_rfl)), hR, Below.refl _ _, rfl⟩
                  | 9, _ =>
                    refine StepL.val rfl [8] (by decide +kernel) ?_
                    intro v wx hR hd
                    have h8 : v 8 = _ := hd 8 (by simp)
                    exact ⟨wanted_plain rfl _, _, _, x_load rfl (hq.at_ rfl h8) (r_load (by kernel_rfl) (pcell_below s0 hR)), hR, Below.refl _ _, rfl⟩
                  | 10, _ =>
                    refine StepL.call rfl [4, 9] (by decide +kernel) ?_
                    intro v wx hR hd
                    have h4 : v 4 = _ := hd 4 (by simp)
                    have h9 : v 9 = _ := hd 9 (by simp)
                    refine ⟨wanted_plain rfl _, 19, _, _, x_call rfl rfl (args_2 (hq.at_ rfl h4) (hq.at_ rfl h9)) (by kernel_rfl) rfl, ?_⟩
                    refine (rsame05_any wx _ _ _ _ _ _ _ _ (HC.out.1.path.below hR) (HC.out.2.path.below hR)).mono ?_
                    rintro e w' ⟨rfl, hW⟩
                    exact ⟨.bool true, by rw [hp], hR.trans (hW.mono hR.size), hW, rfl⟩
                  | 11, _ =>
                    refine StepL.val rfl [10] (by decide +kernel) ?_
                    intro v wx hR hd
                    have h10 : v 10 = _ := hd 10 (by simp)
                    exact ⟨wanted_plain rfl _, _, _, x_un rfl (hq.at_ rfl h10) (r_not rfl), hR, Below.refl _ _, rfl⟩
                  | 12, _ =>
                    refine StepL.val rfl [11] (by decide +kernel) ?_
                    intro v wx hR hd
                    have h11 : v 11 = _ := hd 11 (by simp)
                    exact ⟨wanted_plain rfl _, _, _, x_move rfl (hq.at_ rfl h11), hR, Below.refl _ _, rfl⟩
                  | 13, _ =>
                    refine StepL.val rfl [12] (by decide +kernel) ?_
                    intro v wx hR hd
                    have h12 : v 12 = _ := hd 12 (by simp)
                    exact ⟨hq.yes rfl rfl rfl h12, _, _, x_move rfl (fill_off rfl rfl), hR, Below.refl _ _, rfl⟩
                  | 14, _ =>
                    refine StepL.val rfl [12] (by decide +kernel) ?_
                    intro v wx hR hd
                    have h12 : v 12 = _ := hd 12 (by simp)
                    exact ⟨hq.yes rfl rfl rfl h12, _, _, x_move rfl (fill_off rfl rfl), hR, Below.refl _ _, rfl⟩
                  | 15, _ =>
                    refine StepL.val rfl [12, 13, 14] (by decide +kernel) ?_
                    intro v wx hR hd
                    have h12 : v 12 = _ := hd 12 (by simp)
                    have h13 : v 13 = _ := hd 13 (by simp)
                    have h14 : v 14 = _ := hd 14 (by simp)
                    exact ⟨hq.yes rfl rfl rfl h12, _, _, x_index rfl (hq.at_ rfl h13) (hq.at_ rfl h14) (r_index (e := 54) (size := 4) (by kernel_rfl) (by kernel_rfl) (by omega) (by omega) (by first | omega | simp)), hR, Below.refl _ _, rfl⟩
                  | 16, _ =>
                    refine StepL.val rfl [12, 15] (by decide +kernel) ?_
                    intro v wx hR hd
                    have h12 : v 12 = _ := hd 12 (by simp)
                    have h15 : v 15 = _ := hd 15 (by simp)
                    exact ⟨hq.yes rfl rfl rfl h12, _, _, x_field rfl (hq.at_ rfl h15) (r_field (off := 1) (by kernel_rfl)), hR, Below.refl _ _, rfl⟩
                  | 17, _ =>
                    refine StepL.val rfl [12, 16] (by decide +kernel) ?_
                    intro v wx hR hd
                    have h12 : v 12 = _ := hd 12 (by simp)
                    have h16 : v 16 = _ := hd 16 (by simp)
                    exact ⟨hq.yes rfl rfl rfl h12, _, _, x_load rfl (hq.at_ rfl h16) (r_load (by kernel_rfl) (pcell_below q1 hR)), hR, Below.refl _ _, rfl⟩
                  | 18, _ =>
                    refine StepL.val rfl [12] (by decide +kernel) ?_
                    intro v wx hR hd
                    have h12 : v 12 = _ := hd 12 (by simp)
                    exact ⟨hq.yes rfl rfl rfl h12, _, _, x_move rfl (fill_off rfl rfl), hR, Below.refl _ _, rfl⟩
                  | 19, _ =>
                    refine StepL.val rfl [12] (by decide +kernel) ?_
                    intro v wx hR hd
                    have h12 : v 12 = _ := hd 12 (by simp)
                    exact ⟨hq.yes rfl rfl rfl h12, _, _, x_move rfl (fill_off rfl rfl), hR, Below.refl _ _, rfl⟩
                  | 20, _ =>
                    refine StepL.val rfl [12, 18, 19] (by decide +kernel) ?_
                    intro v wx hR hd
                    have h12 : v 12 = _ := hd 12 (by simp)
                    have h18 : v 18 = _ := hd 18 (by simp)
                    have h19 : v 19 = _ := hd 19 (by simp)
                    exact ⟨hq.yes rfl rfl rfl h12, _, _, x_index rfl (hq.at_ rfl h18) (hq.at_ rfl h19) (r_index (e := 54) (size := 4) (by kernel_rfl) (by kernel_rfl) (by omega) (by omega) (by first | omega | simp)), hR, Below.refl _ _, rfl⟩
                  | 21, _ =>
                    refine StepL.val rfl [12, 20] (by decide +kernel) ?_
                    intro v wx hR hd
                    have h12 : v 12 = _ := hd 12 (by simp)
                    have h20 : v 20 = _ := hd 20 (by simp)
                    exact ⟨hq.yes rfl rfl rfl h12, _, _, x_field rfl (hq.at_ rfl h20) (r_field (off := 1) (by kernel_rfl)), hR, Below.refl _ _, rfl⟩
                  | 22, _ =>
                    refine StepL.val rfl [12, 21] (by decide +kernel) ?_
                    intro v wx hR hd
                    have h12 : v 12 = _ := hd 12 (by simp)
                    have h21 : v 21 = _ := hd 21 (by simp)
                    exact ⟨hq.yes rfl rfl rfl h12, _, _, x_load rfl (hq.at_ rfl h21) (r_load (by kernel_rfl) (pcell_below s1 hR)), hR, Below.refl _ _, rfl⟩
                  | 23, _ =>
                    refine StepL.val rfl [12, 17, 22] (by decide +kernel) ?_
                    intro v wx hR hd
                    have h12 : v 12 = _ := hd 12 (by simp)
                    have h17 : v 17 = _ := hd 17 (by simp)
                    have h22 : v 22 = _ := hd 22 (by simp)
                    exact ⟨hq.yes rfl rfl rfl h12, _, _, x_bin rfl (hq.at_ rfl h17) (hq.at_ rfl h22) (r_neq (by simp [hk])), hR, Below.refl _ _, rfl⟩
                  | 24, _ =>
                    refine StepL.val rfl [12, 23] (by decide +kernel) ?_
                    intro v wx hR hd
                    have h12 : v 12 = _ := hd 12 (by simp)
                    have h23 : v 23 = _ := hd 23 (by simp)
                    exact ⟨wanted_plain rfl _, _, _, x_pick_no rfl (hq.at_ rfl h12) (hq.at_ rfl h23), hR, Below.refl _ _, rfl⟩
                  | 25, _ =>
                    refine StepL.val rfl [24] (by decide +kernel) ?_
                    intro v wx hR hd
                    have h24 : v 24 = _ := hd 24 (by simp)
                    exact ⟨wanted_plain rfl _, _, _, x_move rfl (hq.at_ rfl h24), hR, Below.refl _ _, rfl⟩
                  | 26, _ =>
                    refine StepL.val rfl [25] (by decide +kernel) ?_
                    intro v wx hR hd
                    have h25 : v 25 = _ := hd 25 (by simp)
                    exact ⟨hq.yes rfl rfl rfl h25, _, _, x_move rfl (fill_off rfl rfl), hR, Below.refl _ _, rfl⟩
                  | 27, _ =>
                    refine StepL.val rfl [25] (by decide +kernel) ?_
                    intro v wx hR hd
                    have h25 : v 25 = _ := hd 25 (by simp)
                    exact ⟨hq.yes rfl rfl rfl h25, _, _, x_move rfl (fill_off rfl rfl), hR, Below.refl _ _, rfl⟩
                  | 28, _ =>
                    refine StepL.val rfl [25, 26, 27] (by decide +kernel) ?_
                    intro v wx hR hd
                    have h25 : v 25 = _ := hd 25 (by simp)
                    have h26 : v 26 = _ := hd 26 (by simp)
                    have h27 : v 27 = _ := hd 27 (by simp)
                    exact ⟨hq.yes rfl rfl rfl h25, _, _, x_index rfl (hq.at_ rfl h26) (hq.at_ rfl h27) (r_index (e := 54) (size := 4) (by kernel_rfl) (by kernel_rfl) (by omega) (by omega) (by first | omega | simp)), hR, Below.refl _ _, rfl⟩
                  | 29, _ =>
                    refine StepL.val rfl [25, 28] (by decide +kernel) ?_
                    intro v wx hR hd
                    have h25 : v 25 = _ := hd 25 (by simp)
                    have h28 : v 28 = _ := hd 28 (by simp)
                    exact ⟨hq.yes rfl rfl rfl h25, _, _, x_field rfl (hq.at_ rfl h28) (r_field (off := 2) (by kernel_rfl)), hR, Below.refl _ _, rfl⟩
                  | 30, _ =>
                    refine StepL.val rfl [25, 29] (by decide +kernel) ?_
                    intro v wx hR hd
                    have h25 : v 25 = _ := hd 25 (by simp)
                    have h29 : v 29 = _ := hd 29 (by simp)
                    exact ⟨hq.yes rfl rfl rfl h25, _, _, x_load rfl (hq.at_ rfl h29) (r_load (by kernel_rfl) (pcell_below q2 hR)), hR, Below.refl _ _, rfl⟩
                  | 31, _ =>
                    refine StepL.val rfl [25] (by decide +kernel) ?_
                    intro v wx hR hd
                    have h25 : v 25 = _ := hd 25 (by simp)
                    exact ⟨hq.yes rfl rfl rfl h25, _, _, x_move rfl (fill_off rfl rfl), hR, Below.refl _ _, rfl⟩
                  | 32, _ =>
                    refine StepL.val rfl [25] (by decide +kernel) ?_
                    intro v wx hR hd
                    have h25 : v 25 = _ := hd 25 (by simp)
                    exact ⟨hq.yes rfl rfl rfl h25, _, _, x_move rfl (fill_off rfl rfl), hR, Below.refl _ _, rfl⟩
                  | 33, _ =>
                    refine StepL.val rfl [25, 31, 32] (by decide +kernel) ?_
                    intro v wx hR hd
                    have h25 : v 25 = _ := hd 25 (by simp)
                    have h31 : v 31 = _ := hd 31 (by simp)
                    have h32 : v 32 = _ := hd 32 (by simp)
                    exact ⟨hq.yes rfl rfl rfl h25, _, _, x_index rfl (hq.at_ rfl h31) (hq.at_ rfl h32) (r_index (e := 54) (size := 4) (by kernel_rfl) (by kernel_rfl) (by omega) (by omega) (by first | omega | simp)), hR, Below.refl _ _, rfl⟩
                  | 34, _ =>
                    refine StepL.val rfl [25, 33] (by decide +kernel) ?_
                    intro v wx hR hd
                    have h25 : v 25 = _ := hd 25 (by simp)
                    have h33 : v 33 = _ := hd 33 (by simp)
                    exact ⟨hq.yes rfl rfl rfl h25, _, _, x_field rfl (hq.at_ rfl h33) (r_field (off := 2) (by kernel_rfl)), hR, Below.refl _ _, rfl⟩
                  | 35, _ =>
                    refine StepL.val rfl [25, 34] (by decide +kernel) ?_
                    intro v wx hR hd
                    have h25 : v 25 = _ := hd 25 (by simp)
                    have h34 : v 34 = _ := hd 34 (by simp)
                    exact ⟨hq.yes rfl rfl rfl h25, _, _, x_load rfl (hq.at_ rfl h34) (r_load (by kernel_rfl) (pcell_below s2 hR)), hR, Below.refl _ _, rfl⟩
                  | 36, _ =>
                    refine StepL.val rfl [25, 30, 35] (by decide +kernel) ?_
                    intro v wx hR hd
                    have h25 : v 25 = _ := hd 25 (by simp)
                    have h30 : v 30 = _ := hd 30 (by simp)
                    have h35 : v 35 = _ := hd 35 (by simp)
                    exact ⟨hq.yes rfl rfl rfl h25, _, _, x_bin rfl (hq.at_ rfl h30) (hq.at_ rfl h35) (r_neq (by simp [hm])), hR, Below.refl _ _, rfl⟩
                  | 37, _ =>
                    refine StepL.val rfl [25, 36] (by decide +kernel) ?_
                    intro v wx hR hd
                    have h25 : v 25 = _ := hd 25 (by simp)
                    have h36 : v 36 = _ := hd 36 (by simp)
                    exact ⟨wanted_plain rfl _, _, _, x_pick_no rfl (hq.at_ rfl h25) (hq.at_ rfl h36), hR, Below.refl _ _, rfl⟩
                  | 38, _ =>
                    refine StepL.val rfl [37] (by decide +kernel) ?_
                    intro v wx hR hd
                    have h37 : v 37 = _ := hd 37 (by simp)
                    exact ⟨wanted_plain rfl _, _, _, x_move rfl (hq.at_ rfl h37), hR, Below.refl _ _, rfl⟩
                  | 39, _ =>
                    refine StepL.val rfl [38] (by decide +kernel) ?_
                    intro v wx hR hd
                    have h38 : v 38 = _ := hd 38 (by simp)
                    exact ⟨hq.yes rfl rfl rfl h38, _, _, x_move rfl (fill_off rfl rfl), hR, Below.refl _ _, rfl⟩
                  | 40, _ =>
                    refine StepL.val rfl [38] (by decide +kernel) ?_
                    intro v wx hR hd
                    have h38 : v 38 = _ := hd 38 (by simp)
                    exact ⟨hq.yes rfl rfl rfl h38, _, _, x_move rfl (fill_off rfl rfl), hR, Below.refl _ _, rfl⟩
                  | 41, _ =>
                    refine StepL.val rfl [38, 39, 40] (by decide +kernel) ?_
                    intro v wx hR hd
                    have h38 : v 38 = _ := hd 38 (by simp)
                    have h39 : v 39 = _ := hd 39 (by simp)
                    have h40 : v 40 = _ := hd 40 (by simp)
                    exact ⟨hq.yes rfl rfl rfl h38, _, _, x_index rfl (hq.at_ rfl h39) (hq.at_ rfl h40) (r_index (e := 54) (size := 4) (by kernel_rfl) (by kernel_rfl) (by omega) (by omega) (by first | omega | simp)), hR, Below.refl _ _, rfl⟩
                  | 42, _ =>
                    refine StepL.val rfl [38, 41] (by decide +kernel) ?_
                    intro v wx hR hd
                    have h38 : v 38 = _ := hd 38 (by simp)
                    have h41 : v 41 = _ := hd 41 (by simp)
                    exact ⟨hq.yes rfl rfl rfl h38, _, _, x_field rfl (hq.at_ rfl h41) (r_field (off := 3) (by kernel_rfl)), hR, Below.refl _ _, rfl⟩
                  | 43, _ =>
                    refine StepL.val rfl [38, 42] (by decide +kernel) ?_
                    intro v wx hR hd
                    have h38 : v 38 = _ := hd 38 (by simp)
                    have h42 : v 42 = _ := hd 42 (by simp)
                    exact ⟨hq.yes rfl rfl rfl h38, _, _, x_load rfl (hq.at_ rfl h42) (r_load (by kernel_rfl) (pcell_below q3 hR)), hR, Below.refl _ _, rfl⟩
                  | 44, _ =>
                    refine StepL.val rfl [38] (by decide +kernel) ?_
                    intro v wx hR hd
                    have h38 : v 38 = _ := hd 38 (by simp)
                    exact ⟨hq.yes rfl rfl rfl h38, _, _, x_move rfl (fill_off rfl rfl), hR, Below.refl _ _, rfl⟩
                  | 45, _ =>
                    refine StepL.val rfl [38] (by decide +kernel) ?_
                    intro v wx hR hd
                    have h38 : v 38 = _ := hd 38 (by simp)
                    exact ⟨hq.yes rfl rfl rfl h38, _, _, x_move rfl (fill_off rfl rfl), hR, Below.refl _ _, rfl⟩
                  | 46, _ =>
                    refine StepL.val rfl [38, 44, 45] (by decide +kernel) ?_
                    intro v wx hR hd
                    have h38 : v 38 = _ := hd 38 (by simp)
                    have h44 : v 44 = _ := hd 44 (by simp)
                    have h45 : v 45 = _ := hd 45 (by simp)
                    exact ⟨hq.yes rfl rfl rfl h38, _, _, x_index rfl (hq.at_ rfl h44) (hq.at_ rfl h45) (r_index (e := 54) (size := 4) (by kernel_rfl) (by kernel_rfl) (by omega) (by omega) (by first | omega | simp)), hR, Below.refl _ _, rfl⟩
                  | 47, _ =>
                    refine StepL.val rfl [38, 46] (by decide +kernel) ?_
                    intro v wx hR hd
                    have h38 : v 38 = _ := hd 38 (by simp)
                    have h46 : v 46 = _ := hd 46 (by simp)
                    exact ⟨hq.yes rfl rfl rfl h38, _, _, x_field rfl (hq.at_ rfl h46) (r_field (off := 3) (by kernel_rfl)), hR, Below.refl _ _, rfl⟩
                  | 48, _ =>
                    refine StepL.val rfl [38, 47] (by decide +kernel) ?_
                    intro v wx hR hd
                    have h38 : v 38 = _ := hd 38 (by simp)
                    have h47 : v 47 = _ := hd 47 (by simp)
                    exact ⟨hq.yes rfl rfl rfl h38, _, _, x_load rfl (hq.at_ rfl h47) (r_load (by kernel_rfl) (pcell_below s3 hR)), hR, Below.refl _ _, rfl⟩
                  | 49, _ =>
                    refine StepL.call rfl [38, 43, 48] (by decide +kernel) ?_
                    intro v wx hR hd
                    have h38 : v 38 = _ := hd 38 (by simp)
                    have h43 : v 43 = _ := hd 43 (by simp)
                    have h48 : v 48 = _ := hd 48 (by simp)
                    refine ⟨hq.yes rfl rfl rfl h38, 12, _, _, x_call rfl rfl (args_2 (hq.at_ rfl h43) (hq.at_ rfl h48)) (by kernel_rfl) rfl, ?_⟩
                    refine (rsame_din (HC.out.1.data.below hR) (HC.out.2.data.below hR)).mono ?_
                    rintro e w' ⟨rfl, hW⟩
                    exact ⟨.bool false, by rw [hdd], hR.trans (hW.mono hR.size), hW, rfl⟩
                  | 50, _ =>
                    refine StepL.val rfl [38, 49] (by decide +kernel) ?_
                    intro v wx hR hd
                    have h38 : v 38 = _ := hd 38 (by simp)
                    have h49 : v 49 = _ := hd 49 (by simp)
                    exact ⟨hq.yes rfl rfl rfl h38, _, _, x_un rfl (hq.at_ rfl h49) (r_not rfl), hR, Below.refl _ _, rfl⟩
                  | 51, _ =>
                    refine StepL.val rfl [38, 50] (by decide +kernel) ?_
                    intro v wx hR hd
                    have h38 : v 38 = _ := hd 38 (by simp)
                    have h50 : v 50 = _ := hd 50 (by simp)
                    exact ⟨wanted_plain rfl _, _, _, x_pick_no rfl (hq.at_ rfl h38) (hq.at_ rfl h50), hR, Below.refl _ _, rfl⟩
                  | rz + 52, h => omega
                · intro v wx hR hV
                  have h51 : v 51 = _ := hV 51 (by omega)
                  have HR := Lib.hid (HW.out.trans (hR.mono HW.out.size))
                  simp only [fillR, Act.put, List.setIfInBounds_toArray, List.set_cons_zero, List.set_cons_succ, h51]
                  clear hV hR h51 q0 q1 q2 q3 s0 s1 s2 s3
                  have HQ : Hid (decide (es = fs) = false) := Lib.hid (en_ne2 HT.out.1 HT.out.2 (fun e => by exact of_decide_eq_false hdd (congrArg En.data e)))
                  go_wp2_with fail
                  go_ret
                  exact ⟨pret_bool (by rw [HQ.out]), HR.out⟩
              | true =>
                refine wp_hideQ ?_
                intro QQ hQQ
                refine wp_region_quick [some 17, some 18, some 19, some 20, some 21, some 22, some 23, some 24, some 25, some 26, some 27, some 28, some 29, some 30, some 31, some 32, some 33, some 34, some 35, some 36, some 37, some 38, some 39, some 40, some 41, some 42, some 43, some 44, some 45, some 46, some 47, some 48, some 49, some 50, some 51, some 52, some 53, some 54, some 55, some 56, some 57, some 58, some 59, some 60, some 61, some 62, some 63, some 64, some 65, some 66, some 67, some 68] [isV (.slice (some ⟨g, o, none⟩) n c), isV (.int .i64 (i : Int)), isV (.pointer (some ⟨g, o + i * 4, none⟩)), isV (.pointer (some ⟨g, o + i * 4, none⟩)), isV (.slice x.PA x.pn x.pc), isV (.slice (some ⟨g2, o2, none⟩) n d), isV (.int .i64 (i : Int)), isV (.pointer (some ⟨g2, o2 + i * 4, none⟩)), isV (.pointer (some ⟨g2, o2 + i * 4, none⟩)), isV (.slice y.PA y.pn y.pc), isV (.bool true), isV (.bool false), isV (.bool false), isV (.slice (some ⟨g, o, none⟩) n c), isV (.int .i64 (i : Int)), isV (.pointer (some ⟨g, o + i * 4, none⟩)), isV (.pointer (some ⟨g, o + i * 4 + 1, none⟩)), isV (.int .i64 x.k), isV (.slice (some ⟨g2, o2, none⟩) n d), isV (.int .i64 (i : Int)), isV (.pointer (some ⟨g2, o2 + i * 4, none⟩)), isV (.pointer (some ⟨g2, o2 + i * 4 + 1, none⟩)), isV (.int .i64 y.k), isV (.bool false), isV (.bool false), isV (.bool false), isV (.slice (some ⟨g, o, none⟩) n c), isV (.int .i64 (i : Int)), isV (.pointer (some ⟨g, o + i * 4, none⟩)), isV (.pointer (some ⟨g, o + i * 4 + 2, none⟩)), isV (.int .i64 x.m), isV (.slice (some ⟨g2, o2, none⟩) n d), isV (.int .i64 (i : Int)), isV (.pointer (some ⟨g2, o2 + i * 4, none⟩)), isV (.pointer (some ⟨g2, o2 + i * 4 + 2, none⟩)), isV (.int .i64 y.m), isV (.bool false), isV (.bool false), isV (.bool false), isV (.slice (some ⟨g, o, none⟩) n c), isV (.int .i64 (i : Int)), isV (.pointer (some ⟨g, o + i * 4, none⟩)), isV (.pointer (some ⟨g, o + i * 4 + 3, none⟩)), isV (.slice x.DA x.dn x.dc), isV (.slice (some ⟨g2, o2, none⟩) n d), isV (.int .i64 (i : Int)), isV (.pointer (some ⟨g2, o2 + i * 4, none⟩)), isV (.pointer (some ⟨g2, o2 + i * 4 + 3, none⟩)), isV (.slice y.DA y.dn y.dc), isV (.bool true), isV (.bool false), isV (.bool false)] 52 (by kernel_rfl) rfl rfl rfl (by kernel_rfl) (by simp [isV.st]) ?_ ?_
                · intro hq rz hz
                  match rz, hz with
                  | 0, _ =>
                    refine StepL.val rfl [] (by decide +kernel) ?_
                    intro v wx hR hd
                    exact ⟨wanted_plain rfl _, _, _, x_move rfl (fill_off rfl rfl), hR, Below.refl _ _, rfl⟩
                  | 1, _ =>
                    refine StepL.val rfl [] (by decide +kernel) ?_
                    intro v wx hR hd
                    exact ⟨wanted_plain rfl _, _, _, x_move rfl (fill_off rfl rfl), hR, Below.refl _ _, rfl⟩
                  | 2, _ =>
                    refine StepL.val rfl [0, 1] (by decide +kernel) ?_
                    intro v wx hR hd
                    have h0 : v 0 = _ := hd 0 (by simp)
                    have h1 : v 1 = _ := hd 1 (by simp)
                    exact ⟨wanted_plain rfl _, _, _, x_index rfl (hq.at_ rfl h0) (hq.at_ rfl h1) (r_index (e := 54) (size := 4) (by kernel_rfl) (by kernel_rfl) (by omega) (by omega) (by first | omega | simp)), hR, Below.refl _ _, rfl⟩
                  | 3, _ =>
                    refine StepL.val rfl [2] (by decide +kernel) ?_
                    intro v wx hR hd
                    have h2 : v 2 = _ := hd 2 (by simp)
                    exact ⟨wanted_plain rfl _, _, _, x_field rfl (hq.at_ rfl h2) (r_field (off := 0) (by kernel_rfl)), hR, Below.refl _ _, rfl⟩
                  | 4, _ =>
                    refine StepL.val rfl [3] (by decide +kernel) ?_
                    intro v wx hR hd
                    have h3 : v 3 = _ := hd 3 (by simp)
                    exact ⟨wanted_plain rfl _, _, _, x_load rfl (hq.at_ rfl h3) (r_load (by kernel_rfl) (pcell_below q0 hR)), hR, Below.refl _ _, rfl⟩
                  | 5, _ =>
                    refine StepL.val rfl [] (by decide +kernel) ?_
                    intro v wx hR hd
                    exact ⟨wanted_plain rfl _, _, _, x_move rfl (fill_off rfl rfl), hR, Below.refl _ _, rfl⟩
                  | 6, _ =>
                    refine StepL.val rfl [] (by decide +kernel) ?_
                    intro v wx hR hd
                    exact ⟨wanted_plain rfl _, _, _, x_move rfl (fill_off rfl rfl), hR, Below.refl _ _, rfl⟩
                  | 7, _ =>
                    refine StepL.val rfl [5, 6] (by decide +kernel) ?_
                    intro v wx hR hd
                    have h5 : v 5 = _ := hd 5 (by simp)
                    have h6 : v 6 = _ := hd 6 (by simp)
                    exact ⟨wanted_plain rfl _, _, _, x_index rfl (hq.at_ rfl h5) (hq.at_ rfl h6) (r_index (e := 54) (size := 4) (by kernel_rfl) (by kernel_rfl) (by omega) (by omega) (by first | omega | simp)), hR, Below.refl _ _, rfl⟩
                  | 8, _ =>
                    refine StepL.val rfl [7] (by decide +kernel) ?_
                    intro v wx hR hd
                    have h7 : v 7 = _ := hd 7 (by simp)
                    exact ⟨wanted_plain rfl _, _, _, x_field rfl (hq.at_ rfl h7) (r_field (off := 0) (by kernel_rfl)), hR, Below.refl _ _, rfl⟩
                  | 9, _ =>
                    refine StepL.val rfl [8] (by decide +kernel) ?_
                    intro v wx hR hd
                    have h8 : v 8 = _ := hd 8 (by simp)
                    exact ⟨wanted_plain rfl _, _, _, x_load rfl (hq.at_ rfl h8) (r_load (by kernel_rfl) (pcell_below s0 hR)), hR, Below.refl _ _, rfl⟩
                  | 10, _ =>
                    refine StepL.call rfl [4, 9] (by decide +kernel) ?_
                    intro v wx hR hd
                    have h4 : v 4 = _ := hd 4 (by simp)
                    have h9 : v 9 = _ := hd 9 (by simp)
                    refine ⟨wanted_plain rfl _, 19, _, _, x_call rfl rfl (args_2 (hq.at_ rfl h4) (hq.at_ rfl h9)) (by kernel_rfl) rfl, ?_⟩
                    refine (rsame05_any wx _ _ _ _ _ _ _ _ (HC.out.1.path.below hR) (HC.out.2.path.below hR)).mono ?_
                    rintro e w' ⟨rfl, hW⟩
                    exact ⟨.bool true, by rw [hp], hR.trans (hW.mono hR.size), hW, rfl⟩
                  | 11, _ =>
                    refine StepL.val rfl [10] (by decide +kernel) ?_
                    intro v wx hR hd
                    have h10 : v 10 = _ := hd 10 (by simp)
                    exact ⟨wanted_plain rfl _, _, _, x_un rfl (hq.at_ rfl h10) (r_not rfl), hR, Below.refl _ _, rfl⟩
                  | 12, _ =>
                    refine StepL.val rfl [11] (by decide +kernel) ?_
                    intro v wx hR hd
                    have h11 : v 11 = _ := hd 11 (by simp)
                    exact ⟨wanted_plain rfl _, _, _, x_move rfl (hq.at_ rfl h11), hR, Below.refl _ _, rfl⟩
                  | 13, _ =>
                    refine StepL.val rfl [12] (by decide +kernel) ?_
                    intro v wx hR hd
                    have h12 : v 12 = _ := hd 12 (by simp)
                    exact ⟨hq.yes rfl rfl rfl h12, _, _, x_move rfl (fill_off rfl rfl), hR, Below.refl _ _, rfl⟩
                  | 14, _ =>
                    refine StepL.val rfl [12] (by decide +kernel) ?_
                    intro v wx hR hd
                    have h12 : v 12 = _ := hd 12 (by simp)
                    exact ⟨hq.yes rfl rfl rfl h12, _, _, x_move rfl (fill_off rfl rfl), hR, Below.refl _ _, rfl⟩
                  | 15, _ =>
                    refine StepL.val rfl [12, 13, 14] (by decide +kernel) ?_
                    intro v wx hR hd
                    have h12 : v 12 = _ := hd 12 (by simp)
                    have h13 : v 13 = _ := hd 13 (by simp)
                    have h14 : v 14 = _ := hd 14 (by simp)
                    exact ⟨hq.yes rfl rfl rfl h12, _, _, x_index rfl (hq.at_ rfl h13) (hq.at_ rfl h14) (r_index (e := 54) (size := 4) (by kernel_rfl) (by kernel_rfl) (by omega) (by omega) (by first | omega | simp)), hR, Below.refl _ _, rfl⟩
                  | 16, _ =>
                    refine StepL.val rfl [12, 15] (by decide +kernel) ?_
                    intro v wx hR hd
                    have h12 : v 12 = _ := hd 12 (by simp)
                    have h15 : v 15 = _ := hd 15 (by simp)
                    exact ⟨hq.yes rfl rfl rfl h12, _, _, x_field rfl (hq.at_ rfl h15) (r_field (off := 1) (by kernel_rfl)), hR, Below.refl _ _, rfl⟩
                  | 17, _ =>
                    refine StepL.val rfl [12, 16] (by decide +kernel) ?_
                    intro v wx hR hd
                    have h12 : v 12 = _ := hd 12 (by simp)
                    have h16 : v 16 = _ := hd 16 (by simp)
                    exact ⟨hq.yes rfl rfl rfl h12, _, _, x_load rfl (hq.at_ rfl h16) (r_load (by kernel_rfl) (pcell_below q1 hR)), hR, Below.refl _ _, rfl⟩
                  | 18, _ =>
                    refine StepL.val rfl [12] (by decide +kernel) ?_
                    intro v wx hR hd
                    have h12 : v 12 = _ := hd 12 (by simp)
                    exact ⟨hq.yes rfl rfl rfl h12, _, _, x_move rfl (fill_off rfl rfl), hR, Below.refl _ _, rfl⟩
                  | 19, _ =>
                    refine StepL.val rfl [12] (by decide +kernel) ?_
                    intro v wx hR hd
                    have h12 : v 12 = _ := hd 12 (by simp)
                    exact ⟨hq.yes rfl rfl rfl h12, _, _, x_move rfl (fill_off rfl rfl), hR, Below.refl _ _, rfl⟩
                  | 20, _ =>
                    refine StepL.val rfl [12, 18, 19] (by decide +kernel) ?_
                    intro v wx hR hd
                    have h12 : v 12 = _ := hd 12 (by simp)
                    have h18 : v 18 = _ := hd 18 (by simp)
                    have h19 : v 19 = _ := hd 19 (by simp)
                    exact ⟨hq.yes rfl rfl rfl h12, _, _, x_index rfl (hq.at_ rfl h18) (hq.at_ rfl h19) (r_index (e := 54) (size := 4) (by kernel_rfl) (by kernel_rfl) (by omega) (by omega) (by first | omega | simp)), hR, Below.refl _ _, rfl⟩
                  | 21, _ =>
                    refine StepL.val rfl [12, 20] (by decide +kernel) ?_
                    intro v wx hR hd
                    have h12 : v 12 = _ := hd 12 (by simp)
                    have h20 : v 20 = _ := hd 20 (by simp)
                    exact ⟨hq.yes rfl rfl rfl h12, _, _, x_field rfl (hq.at_ rfl h20) (r_field (off := 1) (by kernel_rfl)), hR, Below.refl _ _, rfl⟩
                  | 22, _ =>
                    refine StepL.val rfl [12, 21] (by decide +kernel) ?_
                    intro v wx hR hd
                    have h12 : v 12 = _ := hd 12 (by simp)
                    have h21 : v 21 = _ := hd 21 (by simp)
                    exact ⟨hq.yes rfl rfl rfl h12, _, _, x_load rfl (hq.at_ rfl h21) (r_load (by kernel_rfl) (pcell_below s1 hR)), hR, Below.refl _ _, rfl⟩
                  | 23, _ =>
                    refine StepL.val rfl [12, 17, 22] (by decide +kernel) ?_
                    intro v wx hR hd
                    have h12 : v 12 = _ := hd 12 (by simp)
                    have h17 : v 17 = _ := hd 17 (by simp)
                    have h22 : v 22 = _ := hd 22 (by simp)
                    exact ⟨hq.yes rfl rfl rfl h12, _, _, x_bin rfl (hq.at_ rfl h17) (hq.at_ rfl h22) (r_neq (by simp [hk])), hR, Below.refl _ _, rfl⟩
                  | 24, _ =>
                    refine StepL.val rfl [12, 23] (by decide +kernel) ?_
                    intro v wx hR hd
                    have h12 : v 12 = _ := hd 12 (by simp)
                    have h23 : v 23 = _ := hd 23 (by simp)
                    exact ⟨wanted_plain rfl _, _, _, x_pick_no rfl (hq.at_ rfl h12) (hq.at_ rfl h23), hR, Below.refl _ _, rfl⟩
                  | 25, _ =>
                    refine StepL.val rfl [24] (by decide +kernel) ?_
                    intro v wx hR hd
                    have h24 : v 24 = _ := hd 24 (by simp)
                    exact ⟨wanted_plain rfl _, _, _, x_move rfl (hq.at_ rfl h24), hR, Below.refl _ _, rfl⟩
                  | 26, _ =>
                    refine StepL.val rfl [25] (by decide +kernel) ?_
                    intro v wx hR hd
                    have h25 : v 25 = _ := hd 25 (by simp)
                    exact ⟨hq.yes rfl rfl rfl h25, _, _, x_move rfl (fill_off rfl rfl), hR, Below.refl _ _, rfl⟩
                  | 27, _ =>
                    refine StepL.val rfl [25] (by decide +kernel) ?_
                    intro v wx hR hd
                    have h25 : v 25 = _ := hd 25 (by simp)
                    exact ⟨hq.yes rfl rfl rfl h25, _, _, x_move rfl (fill_off rfl rfl), hR, Below.refl _ _, rfl⟩
                  | 28, _ =>
                    refine StepL.val rfl [25, 26, 27] (by decide +kernel) ?_
                    intro v wx hR hd
                    have h25 : v 25 = _ := hd 25 (by simp)
                    have h26 : v 26 = _ := hd 26 (by simp)
                    have h27 : v 27 = _ := hd 27 (by simp)
                    exact ⟨hq.yes rfl rfl rfl h25, _, _, x_index rfl (hq.at_ rfl h26) (hq.at_ rfl h27) (r_index (e := 54) (size := 4) (by kernel_rfl) (by kernel_rfl) (by omega) (by omega) (by first | omega | simp)), hR, Below.refl _ _, rfl⟩
                  | 29, _ =>
                    refine StepL.val rfl [25, 28] (by decide +kernel) ?_
                    intro v wx hR hd
                    have h25 : v 25 = _ := hd 25 (by simp)
                    have h28 : v 28 = _ := hd 28 (by simp)
                    exact ⟨hq.yes rfl rfl rfl h25, _, _, x_field rfl (hq.at_ rfl h28) (r_field (off := 2) (by kernel_rfl)), hR, Below.refl _ _, rfl⟩
                  | 30, _ =>
                    refine StepL.val rfl [25, 29] (by decide +kernel) ?_
                    intro v wx hR hd
                    have h25 : v 25 = _ := hd 25 (by simp)
                    have h29 : v 29 = _ := hd 29 (by simp)
                    exact ⟨hq.yes rfl rfl rfl h25, _, _, x_load rfl (hq.at_ rfl h29) (r_load (by kernel_rfl) (pcell_below q2 hR)), hR, Below.refl _ _, rfl⟩
                  | 31, _ =>
                    refine StepL.val rfl [25] (by decide +kernel) ?_
                    intro v wx hR hd
                    have h25 : v 25 = _ := hd 25 (by simp)
                    exact ⟨hq.yes rfl rfl rfl h25, _, _, x_move rfl (fill_off rfl rfl), hR, Below.refl _ _, rfl⟩
                  | 32, _ =>
                    refine StepL.val rfl [25] (by decide +kernel) ?_
                    intro v wx hR hd
                    have h25 : v 25 = _ := hd 25 (by simp)
                    exact ⟨hq.yes rfl rfl rfl h25, _, _, x_move rfl (fill_off rfl rfl), hR, Below.refl _ _, rfl⟩
                  | 33, _ =>
                    refine StepL.val rfl [25, 31, 32] (by decide +kernel) ?_
                    intro v wx hR hd
                    have h25 : v 25 = _ := hd 25 (by simp)
                    have h31 : v 31 = _ := hd 31 (by simp)
                    have h32 : v 32 = _ := hd 32 (by simp)
                    exact ⟨hq.yes rfl rfl rfl h25, _, _, x_index rfl (hq.at_ rfl h31) (hq.at_ rfl h32) (r_index (e := 54) (size := 4) (by kernel_rfl) (by kernel_rfl) (by omega) (by omega) (by first | omega | simp)), hR, Below.refl _ _, rfl⟩
                  | 34, _ =>
                    refine StepL.val rfl [25, 33] (by decide +kernel) ?_
                    intro v wx hR hd
                    have h25 : v 25 = _ := hd 25 (by simp)
                    have h33 : v 33 = _ := hd 33 (by simp)
                    exact ⟨hq.yes rfl rfl rfl h25, _, _, x_field rfl (hq.at_ rfl h33) (r_field (off := 2) (by kernel_rfl)), hR, Below.refl _ _, rfl⟩
                  | 35, _ =>
                    refine StepL.val rfl [25, 34] (by decide +kernel) ?_
                    intro v wx hR hd
                    have h25 : v 25 = _ := hd 25 (by simp)
                    have h34 : v 34 = _ := hd 34 (by simp)
                    exact ⟨hq.yes rfl rfl rfl h25, _, _, x_load rfl (hq.at_ rfl h34) (r_load (by kernel_rfl) (pcell_below s2 hR)), hR, Below.refl _ _, rfl⟩
                  | 36, _ =>
                    refine StepL.val rfl [25, 30, 35] (by decide +kernel) ?_
                    intro v wx hR hd
                    have h25 : v 25 = _ := hd 25 (by simp)
                    have h30 : v 30 = _ := hd 30 (by simp)
                    have h35 : v 35 = _ := hd 35 (by simp)
                    exact ⟨hq.yes rfl rfl rfl h25, _, _, x_bin rfl (hq.at_ rfl h30) (hq.at_ rfl h35) (r_neq (by simp [hm])), hR, Below.refl _ _, rfl⟩
                  | 37, _ =>
                    refine StepL.val rfl [25, 36] (by decide +kernel) ?_
                    intro v wx hR hd
                    have h25 : v 25 = _ := hd 25 (by simp)
                    have h36 : v 36 = _ := hd 36 (by simp)
                    exact ⟨wanted_plain rfl _, _, _, x_pick_no rfl (hq.at_ rfl h25) (hq.at_ rfl h36), hR, Below.refl _ _, rfl⟩
                  | 38, _ =>
                    refine StepL.val rfl [37] (by decide +kernel) ?_
                    intro v wx hR hd
                    have h37 : v 37 = _ := hd 37 (by simp)
                    exact ⟨wanted_plain rfl _, _, _, x_move rfl (hq.at_ rfl h37), hR, Below.refl _ _, rfl⟩
                  | 39, _ =>
                    refine StepL.val rfl [38] (by decide +kernel) ?_
                    intro v wx hR hd
                    have h38 : v 38 = _ := hd 38 (by simp)
                    exact ⟨hq.yes rfl rfl rfl h38, _, _, x_move rfl (fill_off rfl rfl), hR, Below.refl _ _, rfl⟩
                  | 40, _ =>
                    refine StepL.val rfl [38] (by decide +kernel) ?_
                    intro v wx hR hd
                    have h38 : v 38 = _ := hd 38 (by simp)
                    exact ⟨hq.yes rfl rfl rfl h38, _, _, x_move rfl (fill_off rfl rfl), hR, Below.refl _ _, rfl⟩
                  | 41, _ =>
                    refine StepL.val rfl [38, 39, 40] (by decide +kernel) ?_
                    intro v wx hR hd
                    have h38 : v 38 = _ := hd 38 (by simp)
                    have h39 : v 39 = _ := hd 39 (by simp)
                    have h40 : v 40 = _ := hd 40 (by simp)
                    exact ⟨hq.yes rfl rfl rfl h38, _, _, x_index rfl (hq.at_ rfl h39) (hq.at_ rfl h40) (r_index (e := 54) (size := 4) (by kernel_rfl) (by kernel_rfl) (by omega) (by omega) (by first | omega | simp)), hR, Below.refl _ _, rfl⟩
                  | 42, _ =>
                    refine StepL.val rfl [38, 41] (by decide +kernel) ?_
                    intro v wx hR hd
                    have h38 : v 38 = _ := hd 38 (by simp)
                    have h41 : v 41 = _ := hd 41 (by simp)
                    exact ⟨hq.yes rfl rfl rfl h38, _, _, x_field rfl (hq.at_ rfl h41) (r_field (off := 3) (by kernel_rfl)), hR, Below.refl _ _, rfl⟩
                  | 43, _ =>
                    refine StepL.val rfl [38, 42] (by decide +kernel) ?_
                    intro v wx hR hd
                    have h38 : v 38 = _ := hd 38 (by simp)
                    have h42 : v 42 = _ := hd 42 (by simp)
                    exact ⟨hq.yes rfl rfl rfl h38, _, _, x_load rfl (hq.at_ rfl h42) (r_load (by kernel_rfl) (pcell_below q3 hR)), hR, Below.refl _ _, rfl⟩
                  | 44, _ =>
                    refine StepL.val rfl [38] (by decide +kernel) ?_
                    intro v wx hR hd
                    have h38 : v 38 = _ := hd 38 (by simp)
                    exact ⟨hq.yes rfl rfl rfl h38, _, _, x_move rfl (fill_off rfl rfl), hR, Below.refl _ _, rfl⟩
                  | 45, _ =>
                    refine StepL.val rfl [38] (by decide +kernel) ?_
                    intro v wx hR hd
                    have h38 : v 38 = _ := hd 38 (by simp)
                    exact ⟨hq.yes rfl rfl rfl h38, _, _, x_move rfl (fill_off rfl rfl), hR, Below.refl _ _, rfl⟩
                  | 46, _ =>
                    refine StepL.val rfl [38, 44, 45] (by decide +kernel) ?_
                    intro v wx hR hd
                    have h38 : v 38 = _ := hd 38 (by simp)
                    have h44 : v 44 = _ := hd 44 (by simp)
                    have h45 : v 45 = _ := hd 45 (by simp)
                    exact ⟨hq.yes rfl rfl rfl h38, _, _, x_index rfl (hq.at_ rfl h44) (hq.at_ rfl h45) (r_index (e := 54) (size := 4) (by kernel_rfl) (by kernel_rfl) (by omega) (by omega) (by first | omega | simp)), hR, Below.refl _ _, rfl⟩
                  | 47, _ =>
                    refine StepL.val rfl [38, 46] (by decide +kernel) ?_
                    intro v wx hR hd
                    have h38 : v 38 = _ := hd 38 (by simp)
                    have h46 : v 46 = _ := hd 46 (by simp)
                    exact ⟨hq.yes rfl rfl rfl h38, _, _, x_field rfl (hq.at_ rfl h46) (r_field (off := 3) (by kernel_rfl)), hR, Below.refl _ _, rfl⟩
                  | 48, _ =>
                    refine StepL.val rfl [38, 47] (by decide +kernel) ?_
                    intro v wx hR hd
                    have h38 : v 38 = _ := hd 38 (by simp)
                    have h47 : v 47 = _ := hd 47 (by simp)
                    exact ⟨hq.yes rfl rfl rfl h38, _, _, x_load rfl (hq.at_ rfl h47) (r_load (by kernel_rfl) (pcell_below s3 hR)), hR, Below.refl _ _, rfl⟩
                  | 49, _ =>
                    refine StepL.call rfl [38, 43, 48] (by decide +kernel) ?_
                    intro v wx hR hd
                    have h38 : v 38 = _ := hd 38 (by simp)
                    have h43 : v 43 = _ := hd 43 (by simp)
                    have h48 : v 48 = _ := hd 48 (by simp)
                    refine ⟨hq.yes rfl rfl rfl h38, 12, _, _, x_call rfl rfl (args_2 (hq.at_ rfl h43) (hq.at_ rfl h48)) (by kernel_rfl) rfl, ?_⟩
                    refine (rsame_din (HC.out.1.data.below hR) (HC.out.2.data.below hR)).mono ?_
                    rintro e w' ⟨rfl, hW⟩
                    exact ⟨.bool true, by rw [hdd], hR.trans (hW.mono hR.size), hW, rfl⟩
                  | 50, _ =>
                    refine StepL.val rfl [38, 49] (by decide +kernel) ?_
                    intro v wx hR hd
                    have h38 : v 38 = _ := hd 38 (by simp)
                    have h49 : v 49 = _ := hd 49 (by simp)
                    exact ⟨hq.yes rfl rfl rfl h38, _, _, x_un rfl (hq.at_ rfl h49) (r_not rfl), hR, Below.refl _ _, rfl⟩
                  | 51, _ =>
                    refine StepL.val rfl [38, 50] (by decide +kernel) ?_
                    intro v wx hR hd
                    have h38 : v 38 = _ := hd 38 (by simp)
                    have h50 : v 50 = _ := hd 50 (by simp)
                    exact ⟨wanted_plain rfl _, _, _, x_pick_no rfl (hq.at_ rfl h38) (hq.at_ rfl h50), hR, Below.refl _ _, rfl⟩
                  | rz + 52, h => omega
                · intro v wx hR hV
                  have h51 : v 51 = _ := hV 51 (by omega)
                  have HR := Lib.hid (HW.out.trans (hR.mono HW.out.size))
                  simp only [fillR, Act.put, List.setIfInBounds_toArray, List.set_cons_zero, List.set_cons_succ, h51]
                  clear hV hR h51 q0 q1 q2 q3 s0 s1 s2 s3
                  have HE : Hid (a = b) := Lib.hid (En.ext_ (of_decide_eq_true hp) (by rw [HC.out.1.kind, HC.out.2.kind, hk]) (by rw [HC.out.1.mode, HC.out.2.mode, hm]) (of_decide_eq_true hdd))
                  go_wp2_with fail
                  exact ⟨⟨i + 1, by omega, by go_num, Lib.hid (fun j x y hj hx hy => by
                    by_cases h : j < i
                    · exact HK.out j x y h hx hy
                    · obtain rfl : j = i := by omega
                      have h1 := HT.out.1
                      have h2 := HT.out.2
                      rw [hx] at h1
                      rw [hy] at h2
                      cases h1
                      cases h2
                      exact HE.out), HR⟩, by simp [intOf]; omega⟩
            · refine wp_hideQ ?_
              intro QQ hQQ
              refine wp_region_quick [some 17, some 18, some 19, some 20, some 21, some 22, some 23, some 24, some 25, some 26, some 27, some 28, some 29, some 30, some 31, some 32, some 33, some 34, some 35, some 36, some 37, some 38, some 39, some 40, some 41, some 42, some 43, some 44, some 45, some 46, some 47, some 48, some 49, some 50, some 51, some 52, some 53, some 54, some 55, some 56, some 57, some 58, some 59, some 60, some 61, some 62, some 63, some 64, some 65, some 66, some 67, some 68] [isV (.slice (some ⟨g, o, none⟩) n c), isV (.int .i64 (i : Int)), isV (.pointer (some ⟨g, o + i * 4, none⟩)), isV (.pointer (some ⟨g, o + i * 4, none⟩)), isV (.slice x.PA x.pn x.pc), isV (.slice (some ⟨g2, o2, none⟩) n d), isV (.int .i64 (i : Int)), isV (.pointer (some ⟨g2, o2 + i * 4, none⟩)), isV (.pointer (some ⟨g2, o2 + i * 4, none⟩)), isV (.slice y.PA y.pn y.pc), isV (.bool true), isV (.bool false), isV (.bool false), isV (.slice (some ⟨g, o, none⟩) n c), isV (.int .i64 (i : Int)), isV (.pointer (some ⟨g, o + i * 4, none⟩)), isV (.pointer (some ⟨g, o + i * 4 + 1, none⟩)), isV (.int .i64 x.k), isV (.slice (some ⟨g2, o2, none⟩) n d), isV (.int .i64 (i : Int)), isV (.pointer (some ⟨g2, o2 + i * 4, none⟩)), isV (.pointer (some ⟨g2, o2 + i * 4 + 1, none⟩)), isV (.int .i64 y.k), isV (.bool false), isV (.bool false), isV (.bool false), isV (.slice (some ⟨g, o, none⟩) n c), isV (.int .i64 (i : Int)), isV (.pointer (some ⟨g, o + i * 4, none⟩)), isV (.pointer (some ⟨g, o + i * 4 + 2, none⟩)), isV (.int .i64 x.m), isV (.slice (some ⟨g2, o2, none⟩) n d), isV (.int .i64 (i : Int)), isV (.pointer (some ⟨g2, o2 + i * 4, none⟩)), isV (.pointer (some ⟨g2, o2 + i * 4 + 2, none⟩)), isV (.int .i64 y.m), isV (.bool true), isV (.bool true), isV (.bool true), isV (undef), isV (undef), isV (undef), isV (undef), isV (undef), isV (undef), isV (undef), isV (undef), isV (undef), isV (undef), isV (undef), isV (undef), isV (.bool true)] 52 (by kernel_rfl) rfl rfl rfl (by kernel_rfl) (by simp [isV.st]) ?_ ?_
              · intro hq rz hz
                match rz, hz with
                | 0, _ =>
                  refine StepL.val rfl [] (by decide +kernel) ?_
                  intro v wx hR hd
                  exact ⟨wanted_plain rfl _, _, _, x_move rfl (fill_off rfl rfl), hR, Below.refl _ _, rfl⟩
                | 1, _ =>
                  refine StepL.val rfl [] (by decide +kernel) ?_
                  intro v wx hR hd
                  exact ⟨wanted_plain rfl _, _, _, x_move rfl (fill_off rfl rfl), hR, Below.refl _ _, rfl⟩
                | 2, _ =>
                  refine StepL.val rfl [0, 1] (by decide +kernel) ?_
                  intro v wx hR hd
                  have h0 : v 0 = _ := hd 0 (by simp)
                  have h1 : v 1 = _ := hd 1 (by simp)
                  exact ⟨wanted_plain rfl _, _, _, x_index rfl (hq.at_ rfl h0) (hq.at_ rfl h1) (r_index (e := 54) (size := 4) (by kernel_rfl) (by kernel_rfl) (by omega) (by omega) (by first | omega | simp)), hR, Below.refl _ _, rfl⟩
                | 3, _ =>
                  refine StepL.val rfl [2] (by decide +kernel) ?_
                  intro v wx hR hd
                  have h2 : v 2 = _ := hd 2 (by simp)
                  exact ⟨wanted_plain rfl _, _, _, x_field rfl (hq.at_ rfl h2) (r_field (off := 0) (by kernel_rfl)), hR, Below.refl _ _, rfl⟩
                | 4, _ =>
                  refine StepL.val rfl [3] (by decide +kernel) ?_
                  intro v wx hR hd
                  have h3 : v 3 = _ := hd 3 (by simp)
                  exact ⟨wanted_plain rfl _, _, _, x_load rfl (hq.at_ rfl h3) (r_load (by kernel_rfl) (pcell_below q0 hR)), hR, Below.refl _ _, rfl⟩
                | 5, _ =>
                  refine StepL.val rfl [] (by decide +kernel) ?_
                  intro v wx hR hd
                  exact ⟨wanted_plain rfl _, _, _, x_move rfl (fill_off rfl rfl), hR, Below.refl _ _, rfl⟩
                | 6, _ =>
                  refine StepL.val rfl [] (by decide +kernel) ?_
                  intro v wx hR hd
                  exact ⟨wanted_plain rfl _, _, _, x_move rfl (fill_off rfl rfl), hR, Below.refl _ _, rfl⟩
                | 7, _ =>
                  refine StepL.val rfl [5, 6] (by decide +kernel) ?_
                  intro v wx hR hd
                  have h5 : v 5 = _ := hd 5 (by simp)
                  have h6 : v 6 = _ := hd 6 (by simp)
                  exact ⟨wanted_plain rfl _, _, _, x_index rfl (hq.at_ rfl h5) (hq.at_ rfl h6) (r_index (e := 54) (size := 4) (by kernel_rfl) (by kernel_rfl) (by omega) (by omega) (by first | omega | simp)), hR, Below.refl _ _, rfl⟩
                | 8, _ =>
                  refine StepL.val rfl [7] (by decide +kernel) ?_
                  intro v wx hR hd
                  have h7 : v 7 = _ := hd 7 (by simp)
                  exact ⟨wanted_plain rfl _, _, _, x_field rfl (hq.at_ rfl h7) (r_field (off := 0) (by kernel_rfl)), hR, Below.refl _ _, rfl⟩
                | 9, _ =>
                  refine StepL.val rfl [8] (by decide +kernel) ?_
                  intro v wx hR hd
                  have h8 : v 8 = _ := hd 8 (by simp)
                  exact ⟨wanted_plain rfl _, _, _, x_load rfl (hq.at_ rfl h8) (r_load (by kernel_rfl) (pcell_below s0 hR)), hR, Below.refl _ _, rfl⟩
                | 10, _ =>
                  refine StepL.call rfl [4, 9] (by decide +kernel) ?_
                  intro v wx hR hd
                  have h4 : v 4 = _ := hd 4 (by simp)
                  have h9 : v 9 = _ := hd 9 (by simp)
                  refine ⟨wanted_plain rfl _, 19, _, _, x_call rfl rfl (args_2 (hq.at_ rfl h4) (hq.at_ rfl h9)) (by kernel_rfl) rfl, ?_⟩
                  refine (rsame05_any wx _ _ _ _ _ _ _ _ (HC.out.1.path.below hR) (HC.out.2.path.below hR)).mono ?_
                  rintro e w' ⟨rfl, hW⟩
                  exact ⟨.bool true, by rw [hp], hR.trans (hW.mono hR.size), hW, rfl⟩
                | 11, _ =>
                  refine StepL.val rfl [10] (by decide +kernel) ?_
                  intro v wx hR hd
                  have h10 : v 10 = _ := hd 10 (by simp)
                  exact ⟨wanted_plain rfl _, _, _, x_un rfl (hq.at_ rfl h10) (r_not rfl), hR, Below.refl _ _, rfl⟩
                | 12, _ =>
                  refine StepL.val rfl [11] (by decide +kernel) ?_
                  intro v wx hR hd
                  have h11 : v 11 = _ := hd 11 (by simp)
                  exact ⟨wanted_plain rfl _, _, _, x_move rfl (hq.at_ rfl h11), hR, Below.refl _ _, rfl⟩
                | 13, _ =>
                  refine StepL.val rfl [12] (by decide +kernel) ?_
                  intro v wx hR hd
                  have h12 : v 12 = _ := hd 12 (by simp)
                  exact ⟨hq.yes rfl rfl rfl h12, _, _, x_move rfl (fill_off rfl rfl), hR, Below.refl _ _, rfl⟩
                | 14, _ =>
                  refine StepL.val rfl [12] (by decide +kernel) ?_
                  intro v wx hR hd
                  have h12 : v 12 = _ := hd 12 (by simp)
                  exact ⟨hq.yes rfl rfl rfl h12, _, _, x_move rfl (fill_off rfl rfl), hR, Below.refl _ _, rfl⟩
                | 15, _ =>
                  refine StepL.val rfl [12, 13, 14] (by decide +kernel) ?_
                  intro v wx hR hd
                  have h12 : v 12 = _ := hd 12 (by simp)
                  have h13 : v 13 = _ := hd 13 (by simp)
                  have h14 : v 14 = _ := hd 14 (by simp)
                  exact ⟨hq.yes rfl rfl rfl h12, _, _, x_index rfl (hq.at_ rfl h13) (hq.at_ rfl h14) (r_index (e := 54) (size := 4) (by kernel_rfl) (by kernel_rfl) (by omega) (by omega) (by first | omega | simp)), hR, Below.refl _ _, rfl⟩
                | 16, _ =>
                  refine StepL.val rfl [12, 15] (by decide +kernel) ?_
                  intro v wx hR hd
                  have h12 : v 12 = _ := hd 12 (by simp)
                  have h15 : v 15 = _ := hd 15 (by simp)
                  exact ⟨hq.yes rfl rfl rfl h12, _, _, x_field rfl (hq.at_ rfl h15) (r_field (off := 1) (by kernel_rfl)), hR, Below.refl _ _, rfl⟩
                | 17, _ =>
                  refine StepL.val rfl [12, 16] (by decide +kernel) ?_
                  intro v wx hR hd
                  have h12 : v 12 = _ := hd 12 (by simp)
                  have h16 : v 16 = _ := hd 16 (by simp)
                  exact ⟨hq.yes rfl rfl rfl h12, _, _, x_load rfl (hq.at_ rfl h16) (r_load (by kernel_rfl) (pcell_below q1 hR)), hR, Below.refl _ _, rfl⟩
                | 18, _ =>
                  refine StepL.val rfl [12] (by decide +kernel) ?_
                  intro v wx hR hd
                  have h12 : v 12 = _ := hd 12 (by simp)
                  exact ⟨hq.yes rfl rfl rfl h12, _, _, x_move rfl (fill_off rfl rfl), hR, Below.refl _ _, rfl⟩
                | 19, _ =>
                  refine StepL.val rfl [12] (by decide +kernel) ?_
                  intro v wx hR hd
                  have h12 : v 12 = _ := hd 12 (by simp)
                  exact ⟨hq.yes rfl rfl rfl h12, _, _, x_move rfl (fill_off rfl rfl), hR, Below.refl _ _, rfl⟩
                | 20, _ =>
                  refine StepL.val rfl [12, 18, 19] (by decide +kernel) ?_
                  intro v wx hR hd
                  have h12 : v 12 = _ := hd 12 (by simp)
                  have h18 : v 18 = _ := hd 18 (by simp)
                  have h19 : v 19 = _ := hd 19 (by simp)
                  exact ⟨hq.yes rfl rfl rfl h12, _, _, x_index rfl (hq.at_ rfl h18) (hq.at_ rfl h19) (r_index (e := 54) (size := 4) (by kernel_rfl) (by kernel_rfl) (by omega) (by omega) (by first | omega | simp)), hR, Below.refl _ _, rfl⟩
                | 21, _ =>
                  refine StepL.val rfl [12, 20] (by decide +kernel) ?_
                  intro v wx hR hd
                  have h12 : v 12 = _ := hd 12 (by simp)
                  have h20 : v 20 = _ := hd 20 (by simp)
                  exact ⟨hq.yes rfl rfl rfl h12, _, _, x_field rfl (hq.at_ rfl h20) (r_field (off := 1) (by kernel_rfl)), hR, Below.refl _ _, rfl⟩
                | 22, _ =>
                  refine StepL.val rfl [12, 21] (by decide +kernel) ?_
                  intro v wx hR hd
                  have h12 : v 12 = _ := hd 12 (by simp)
                  have h21 : v 21 = _ := hd 21 (by simp)
                  exact ⟨hq.yes rfl rfl rfl h12, _, _, x_load rfl (hq.at_ rfl h21) (r_load (by kernel_rfl) (pcell_below s1 hR)), hR, Below.refl _ _, rfl⟩
                | 23, _ =>
                  refine StepL.val rfl [12, 17, 22] (by decide +kernel) ?_
                  intro v wx hR hd
                  have h12 : v 12 = _ := hd 12 (by simp)
                  have h17 : v 17 = _ := hd 17 (by simp)
                  have h22 : v 22 = _ := hd 22 (by simp)
                  exact ⟨hq.yes rfl rfl rfl h12, _, _, x_bin rfl (hq.at_ rfl h17) (hq.at_ rfl h22) (r_neq (by simp [hk])), hR, Below.refl _ _, rfl⟩
                | 24, _ =>
                  refine StepL.val rfl [12, 23] (by decide +kernel) ?_
                  intro v wx hR hd
                  have h12 : v 12 = _ := hd 12 (by simp)
                  have h23 : v 23 = _ := hd 23 (by simp)
                  exact ⟨wanted_plain rfl _, _, _, x_pick_no rfl (hq.at_ rfl h12) (hq.at_ rfl h23), hR, Below.refl _ _, rfl⟩
                | 25, _ =>
                  refine StepL.val rfl [24] (by decide +kernel) ?_
                  intro v wx hR hd
                  have h24 : v 24 = _ := hd 24 (by simp)
                  exact ⟨wanted_plain rfl _, _, _, x_move rfl (hq.at_ rfl h24), hR, Below.refl _ _, rfl⟩
                | 26, _ =>
                  refine StepL.val rfl [25] (by decide +kernel) ?_
                  intro v wx hR hd
                  have h25 : v 25 = _ := hd 25 (by simp)
                  exact ⟨hq.yes rfl rfl rfl h25, _, _, x_move rfl (fill_off rfl rfl), hR, Below.refl _ _, rfl⟩
                | 27, _ =>
                  refine StepL.val rfl [25] (by decide +kernel) ?_
                  intro v wx hR hd
                  have h25 : v 25 = _ := hd 25 (by simp)
                  exact ⟨hq.yes rfl rfl rfl h25, _, _, x_move rfl (fill_off rfl rfl), hR, Below.refl _ _, rfl⟩
                | 28, _ =>
                  refine StepL.val rfl [25, 26, 27] (by decide +kernel) ?_
                  intro v wx hR hd
                  have h25 : v 25 = _ := hd 25 (by simp)
                  have h26 : v 26 = _ := hd 26 (by simp)
                  have h27 : v 27 = _ := hd 27 (by simp)
                  exact ⟨hq.yes rfl rfl rfl h25, _, _, x_index rfl (hq.at_ rfl h26) (hq.at_ rfl h27) (r_index (e := 54) (size := 4) (by kernel_rfl) (by kernel_rfl) (by omega) (by omega) (by first | omega | simp)), hR, Below.refl _ _, rfl⟩
                | 29, _ =>
                  refine StepL.val rfl [25, 28] (by decide +kernel) ?_
                  intro v wx hR hd
                  have h25 : v 25 = _ := hd 25 (by simp)
                  have h28 : v 28 = _ := hd 28 (by simp)
                  exact ⟨hq.yes rfl rfl rfl h25, _, _, x_field rfl (hq.at_ rfl h28) (r_field (off := 2) (by kernel_rfl)), hR, Below.refl _ _, rfl⟩
                | 30, _ =>
                  refine StepL.val rfl [25, 29] (by decide +kernel) ?_
                  intro v wx hR hd
                  have h25 : v 25 = _ := hd 25 (by simp)
                  have h29 : v 29 = _ := hd 29 (by simp)
                  exact ⟨hq.yes rfl rfl rfl h25, _, _, x_load rfl (hq.at_ rfl h29) (r_load (by kernel_rfl) (pcell_below q2 hR)), hR, Below.refl _ _, rfl⟩
                | 31, _ =>
                  refine StepL.val rfl [25] (by decide +kernel) ?_
                  intro v wx hR hd
                  have h25 : v 25 = _ := hd 25 (by simp)
                  exact ⟨hq.yes rfl rfl rfl h25, _, _, x_move rfl (fill_off rfl rfl), hR, Below.refl _ _, rfl⟩
                | 32, _ =>
                  refine StepL.val rfl [25] (by decide +kernel) ?_
                  intro v wx hR hd
                  have h25 : v 25 = _ := hd 25 (by simp)
                  exact ⟨hq.yes rfl rfl rfl h25, _, _, x_move rfl (fill_off rfl rfl), hR, Below.refl _ _, rfl⟩
                | 33, _ =>
                  refine StepL.val rfl [25, 31, 32] (by decide +kernel) ?_
                  intro v wx hR hd
                  have h25 : v 25 = _ := hd 25 (by simp)
                  have h31 : v 31 = _ := hd 31 (by simp)
                  have h32 : v 32 = _ := hd 32 (by simp)
                  exact ⟨hq.yes rfl rfl rfl h25, _, _, x_index rfl (hq.at_ rfl h31) (hq.at_ rfl h32) (r_index (e := 54) (size := 4) (by kernel_rfl) (by kernel_rfl) (by omega) (by omega) (by first | omega | simp)), hR, Below.refl _ _, rfl⟩
                | 34, _ =>
                  refine StepL.val rfl [25, 33] (by decide +kernel) ?_
                  intro v wx hR hd
                  have h25 : v 25 = _ := hd 25 (by simp)
                  have h33 : v 33 = _ := hd 33 (by simp)
                  exact ⟨hq.yes rfl rfl rfl h25, _, _, x_field rfl (hq.at_ rfl h33) (r_field (off := 2) (by kernel_rfl)), hR, Below.refl _ _, rfl⟩
                | 35, _ =>
                  refine StepL.val rfl [25, 34] (by decide +kernel) ?_
                  intro v wx hR hd
                  have h25 : v 25 = _ := hd 25 (by simp)
                  have h34 : v 34 = _ := hd 34 (by simp)
                  exact ⟨hq.yes rfl rfl rfl h25, _, _, x_load rfl (hq.at_ rfl h34) (r_load (by kernel_rfl) (pcell_below s2 hR)), hR, Below.refl _ _, rfl⟩
                | 36, _ =>
                  refine StepL.val rfl [25, 30, 35] (by decide +kernel) ?_
                  intro v wx hR hd
                  have h25 : v 25 = _ := hd 25 (by simp)
                  have h30 : v 30 = _ := hd 30 (by simp)
                  have h35 : v 35 = _ := hd 35 (by simp)
                  exact ⟨hq.yes rfl rfl rfl h25, _, _, x_bin rfl (hq.at_ rfl h30) (hq.at_ rfl h35) (r_neq (by simp [hm])), hR, Below.refl _ _, rfl⟩
                | 37, _ =>
                  refine StepL.val rfl [25, 36] (by decide +kernel) ?_
                  intro v wx hR hd
                  have h25 : v 25 = _ := hd 25 (by simp)
                  have h36 : v 36 = _ := hd 36 (by simp)
                  exact ⟨wanted_plain rfl _, _, _, x_pick_no rfl (hq.at_ rfl h25) (hq.at_ rfl h36), hR, Below.refl _ _, rfl⟩
                | 38, _ =>
                  refine StepL.val rfl [37] (by decide +kernel) ?_
                  intro v wx hR hd
                  have h37 : v 37 = _ := hd 37 (by simp)
                  exact ⟨wanted_plain rfl _, _, _, x_move rfl (hq.at_ rfl h37), hR, Below.refl _ _, rfl⟩
                | 39, _ =>
                  refine StepL.skip rfl [38] (by decide +kernel) ?_
                  intro v wx hR hd
                  have h38 : v 38 = _ := hd 38 (by simp)
                  exact ⟨hq.no rfl rfl rfl h38 rfl, Below.refl _ _, rfl⟩
                | 40, _ =>
                  refine StepL.skip rfl [38] (by decide +kernel) ?_
                  intro v wx hR hd
                  have h38 : v 38 = _ := hd 38 (by simp)
                  exact ⟨hq.no rfl rfl rfl h38 rfl, Below.refl _ _, rfl⟩
                | 41, _ =>
                  refine StepL.skip rfl [38] (by decide +kernel) ?_
                  intro v wx hR hd
                  have h38 : v 38 = _ := hd 38 (by simp)
                  exact ⟨hq.no rfl rfl rfl h38 rfl, Below.refl _ _, rfl⟩
                | 42, _ =>
                  refine StepL.skip rfl [38] (by decide +kernel) ?_
                  intro v wx hR hd
                  have h38 : v 38 = _ := hd 38 (by simp)
                  exact ⟨hq.no rfl rfl rfl h38 rfl, Below.refl _ _, rfl⟩
                | 43, _ =>
                  refine StepL.skip rfl [38] (by decide +kernel) ?_
                  intro v wx hR hd
                  have h38 : v 38 = _ := hd 38 (by simp)
                  exact ⟨hq.no rfl rfl rfl h38 rfl, Below.refl _ _, rfl⟩
                | 44, _ =>
                  refine StepL.skip rfl [38] (by decide +kernel) ?_
                  intro v wx hR hd
                  have h38 : v 38 = _ := hd 38 (by simp)
                  exact ⟨hq.no rfl rfl rfl h38 rfl, Below.refl _ _, rfl⟩
                | 45, _ =>
                  refine StepL.skip rfl [38] (by decide +kernel) ?_
                  intro v wx hR hd
                  have h38 : v 38 = _ := hd 38 (by simp)
                  exact ⟨hq.no rfl rfl rfl h38 rfl, Below.refl _ _, rfl⟩
                | 46, _ =>
                  refine StepL.skip rfl [38] (by decide +kernel) ?_
                  intro v wx hR hd
                  have h38 : v 38 = _ := hd 38 (by simp)
                  exact ⟨hq.no rfl rfl rfl h38 rfl, Below.refl _ _, rfl⟩
                | 47, _ =>
                  refine StepL.skip rfl [38] (by decide +kernel) ?_
                  intro v wx hR hd
                  have h38 : v 38 = _ := hd 38 (by simp)
                  exact ⟨hq.no rfl rfl rfl h38 rfl, Below.refl _ _, rfl⟩
                | 48, _ =>
                  refine StepL.skip rfl [38] (by decide +kernel) ?_
                  intro v wx hR hd
                  have h38 : v 38 = _ := hd 38 (by simp)
                  exact ⟨hq.no rfl rfl rfl h38 rfl, Below.refl _ _, rfl⟩
                | 49, _ =>
                  refine StepL.skip rfl [38] (by decide +kernel) ?_
                  intro v wx hR hd
                  have h38 : v 38 = _ := hd 38 (by simp)
                  exact ⟨hq.no rfl rfl rfl h38 rfl, Below.refl _ _, rfl⟩
                | 50, _ =>
                  refine StepL.skip rfl [38] (by decide +kernel) ?_
                  intro v wx hR hd
                  have h38 : v 38 = _ := hd 38 (by simp)
                  exact ⟨hq.no rfl rfl rfl h38 rfl, Below.refl _ _, rfl⟩
                | 51, _ =>
                  refine StepL.val rfl [38, 50] (by decide +kernel) ?_
                  intro v wx hR hd
                  have h38 : v 38 = _ := hd 38 (by simp)
                  have h50 : v 50 = _ := hd 50 (by simp)
                  exact ⟨wanted_plain rfl _, _, _, x_pick_yes rfl (hq.at_ rfl h38) rfl, hR, Below.refl _ _, rfl⟩
                | rz + 52, h => omega
              · intro v wx hR hV
                have h51 : v 51 = _ := hV 51 (by omega)
                have HR := Lib.hid (HW.out.trans (hR.mono HW.out.size))
                simp only [fillR, Act.put, List.setIfInBounds_toArray, List.set_cons_zero, List.set_cons_succ, h51]
                clear hV hR h51 q0 q1 q2 q3 s0 s1 s2 s3
                have HQ : Hid (decide (es = fs) = false) := Lib.hid (en_ne2 HT.out.1 HT.out.2 (fun e => by exact hm (by rw [← HC.out.1.mode, ← HC.out.2.mode, e])))
                go_wp2_with fail
                go_ret
                exact ⟨pret_bool (by rw [HQ.out]), HR.out⟩
          · refine wp_hideQ ?_
            intro QQ hQQ
            refine wp_region_quick [some 17, some 18, some 19, some 20, some 21, some 22, some 23, some 24, some 25, some 26, some 27, some 28, some 29, some 30, some 31, some 32, some 33, some 34, some 35, some 36, some 37, some 38, some 39, some 40, some 41, some 42, some 43, some 44, some 45, some 46, some 47, some 48, some 49, some 50, some 51, some 52, some 53, some 54, some 55, some 56, some 57, some 58, some 59, some 60, some 61, some 62, some 63, some 64, some 65, some 66, some 67, some 68] [isV (.slice (some ⟨g, o, none⟩) n c), isV (.int .i64 (i : Int)), isV (.pointer (some ⟨g, o + i * 4, none⟩)), isV (.pointer (some ⟨g, o + i * 4, none⟩)), isV (.slice x.PA x.pn x.pc), isV (.slice (some ⟨g2, o2, none⟩) n d), isV (.int .i64 (i : Int)), isV (.pointer (some ⟨g2, o2 + i * 4, none⟩)), isV (.pointer (some ⟨g2, o2 + i * 4, none⟩)), isV (.slice y.PA y.pn y.pc), isV (.bool true), isV (.bool false), isV (.bool false), isV (.slice (some ⟨g, o, none⟩) n c), isV (.int .i64 (i : Int)), isV (.pointer (some ⟨g, o + i * 4, none⟩)), isV (.pointer (some ⟨g, o + i * 4 + 1, none⟩)), isV (.int .i64 x.k), isV (.slice (some ⟨g2, o2, none⟩) n d), isV (.int .i64 (i : Int)), isV (.pointer (some ⟨g2, o2 + i * 4, none⟩)), isV (.pointer (some ⟨g2, o2 + i * 4 + 1, none⟩)), isV (.int .i64 y.k), isV (.bool true), isV (.bool true), isV (.bool true), isV (undef), isV (undef), isV (undef), isV (undef), isV (undef), isV (undef), isV (undef), isV (undef), isV (undef), isV (undef), isV (undef), isV (.bool true), isV (.bool true), isV (undef), isV (undef), isV (undef), isV (undef), isV (undef), isV (undef), isV (undef), isV (undef), isV (undef), isV (undef), isV (undef), isV (undef), isV (.bool true)] 52 (by kernel_rfl) rfl rfl rfl (by kernel_rfl) (by simp [isV.st]) ?_ ?_
            · intro hq rz hz
              match rz, hz with
              | 0, _ =>
                refine StepL.val rfl [] (by decide +kernel) ?_
                intro v wx hR hd
                exact ⟨wanted_plain rfl _, _, _, x_move rfl (fill_off rfl rfl), hR, Below.refl _ _, rfl⟩
              | 1, _ =>
                refine StepL.val rfl [] (by decide +kernel) ?_
                intro v wx hR hd
                exact ⟨wanted_plain rfl _, _, _, x_move rfl (fill_off rfl rfl), hR, Below.refl _ _, rfl⟩
              | 2, _ =>
                refine StepL.val rfl [0, 1] (by decide +kernel) ?_
                intro v wx hR hd
                have h0 : v 0 = _ := hd 0 (by simp)
                have h1 : v 1 = _ := hd 1 (by simp)
                exact ⟨wanted_plain rfl _, _, _, x_index rfl (hq.at_ rfl h0) (hq.at_ rfl h1) (r_index (e := 54) (size := 4) (by kernel_rfl) (by kernel_rfl) (by omega) (by omega) (by first | omega | simp)), hR, Below.refl _ _, rfl⟩
              | 3, _ =>
                refine StepL.val rfl [2] (by decide +kernel) ?_
                intro v wx hR hd
                have h2 : v 2 = _ := hd 2 (by simp)
                exact ⟨wanted_plain rfl _, _, _, x_field rfl (hq.at_ rfl h2) (r_field (off := 0) (by kernel_rfl)), hR, Below.refl _ _, rfl⟩
              | 4, _ =>
                refine StepL.val rfl [3] (by decide +kernel) ?_
                intro v wx hR hd
                have h3 : v 3 = _ := hd 3 (by simp)
                exact ⟨wanted_plain rfl _, _, _, x_load rfl (hq.at_ rfl h3) (r_load (by kernel_rfl) (pcell_below q0 hR)), hR, Below.refl _ _, rfl⟩
              | 5, _ =>
                refine StepL.val rfl [] (by decide +kernel) ?_
                intro v wx hR hd
                exact ⟨wanted_plain rfl _, _, _, x_move rfl (fill_off rfl rfl), hR, Below.refl _ _, rfl⟩
              | 6, _ =>
                refine StepL.val rfl [] (by decide +kernel) ?_
                intro v wx hR hd
                exact ⟨wanted_plain rfl _, _, _, x_move rfl (fill_off rfl rfl), hR, Below.refl _ _, rfl⟩
              | 7, _ =>
                refine StepL.val rfl [5, 6] (by decide +kernel) ?_
                intro v wx hR hd
                have h5 : v 5 = _ := hd 5 (by simp)
                have h6 : v 6 = _ := hd 6 (by simp)
                exact ⟨wanted_plain rfl _, _, _, x_index rfl (hq.at_ rfl h5) (hq.at_ rfl h6) (r_index (e := 54) (size := 4) (by kernel_rfl) (by kernel_rfl) (by omega) (by omega) (by first | omega | simp)), hR, Below.refl _ _, rfl⟩
              | 8, _ =>
                refine StepL.val rfl [7] (by decide +kernel) ?_
                intro v wx hR hd
                have h7 : v 7 = _ := hd 7 (by simp)
                exact ⟨wanted_plain rfl _, _, _, x_field rfl (hq.at_ rfl h7) (r_field (off := 0) (by kernel_rfl)), hR, Below.refl _ _, rfl⟩
              | 9, _ =>
                refine StepL.val rfl [8] (by decide +kernel) ?_
                intro v wx hR hd
                have h8 : v 8 = _ := hd 8 (by simp)
                exact ⟨wanted_plain rfl _, _, _, x_load rfl (hq.at_ rfl h8) (r_load (by kernel_rfl) (pcell_below s0 hR)), hR, Below.refl _ _, rfl⟩
              | 10, _ =>
                refine StepL.call rfl [4, 9] (by decide +kernel) ?_
                intro v wx hR hd
                have h4 : v 4 = _ := hd 4 (by simp)
                have h9 : v 9 = _ := hd 9 (by simp)
                refine ⟨wanted_plain rfl _, 19, _, _, x_call rfl rfl (args_2 (hq.at_ rfl h4) (hq.at_ rfl h9)) (by kernel_rfl) rfl, ?_⟩
                refine (rsame05_any wx _ _ _ _ _ _ _ _ (HC.out.1.path.below hR) (HC.out.2.path.below hR)).mono ?_
                rintro e w' ⟨rfl, hW⟩
                exact ⟨.bool true, by rw [hp], hR.trans (hW.mono hR.size), hW, rfl⟩
              | 11, _ =>
                refine StepL.val rfl [10] (by decide +kernel) ?_
                intro v wx hR hd
                have h10 : v 10 = _ := hd 10 (by simp)
                exact ⟨wanted_plain rfl _, _, _, x_un rfl (hq.at_ rfl h10) (r_not rfl), hR, Below.refl _ _, rfl⟩
              | 12, _ =>
                refine StepL.val rfl [11] (by decide +kernel) ?_
                intro v wx hR hd
                have h11 : v 11 = _ := hd 11 (by simp)
                exact ⟨wanted_plain rfl _, _, _, x_move rfl (hq.at_ rfl h11), hR, Below.refl _ _, rfl⟩
              | 13, _ =>
                refine StepL.val rfl [12] (by decide +kernel) ?_
                intro v wx hR hd
                have h12 : v 12 = _ := hd 12 (by simp)
                exact ⟨hq.yes rfl rfl rfl h12, _, _, x_move rfl (fill_off rfl rfl), hR, Below.refl _ _, rfl⟩
              | 14, _ =>
                refine StepL.val rfl [12] (by decide +kernel) ?_
                intro v wx hR hd
                have h12 : v 12 = _ := hd 12 (by simp)
                exact ⟨hq.yes rfl rfl rfl h12, _, _, x_move rfl (fill_off rfl rfl), hR, Below.refl _ _, rfl⟩
              | 15, _ =>
                refine StepL.val rfl [12, 13, 14] (by decide +kernel) ?_
                intro v wx hR hd
                have h12 : v 12 = _ := hd 12 (by simp)
                have h13 : v 13 = _ := hd 13 (by simp)
                have h14 : v 14 = _ := hd 14 (by simp)
                exact ⟨hq.yes rfl rfl rfl h12, _, _, x_index rfl (hq.at_ rfl h13) (hq.at_ rfl h14) (r_index (e := 54) (size := 4) (by kernel_rfl) (by kernel_rfl) (by omega) (by omega) (by first | omega | simp)), hR, Below.refl _ _, rfl⟩
              | 16, _ =>
                refine StepL.val rfl [12, 15] (by decide +kernel) ?_
                intro v wx hR hd
                have h12 : v 12 = _ := hd 12 (by simp)
                have h15 : v 15 = _ := hd 15 (by simp)
                exact ⟨hq.yes rfl rfl rfl h12, _, _, x_field rfl (hq.at_ rfl h15) (r_field (off := 1) (by kernel_rfl)), hR, Below.refl _ _, rfl⟩
              | 17, _ =>
                refine StepL.val rfl [12, 16] (by decide +kernel) ?_
                intro v wx hR hd
                have h12 : v 12 = _ := hd 12 (by simp)
                have h16 : v 16 = _ := hd 16 (by simp)
                exact ⟨hq.yes rfl rfl rfl h12, _, _, x_load rfl (hq.at_ rfl h16) (r_load (by kernel_rfl) (pcell_below q1 hR)), hR, Below.refl _ _, rfl⟩
              | 18, _ =>
                refine StepL.val rfl [12] (by decide +kernel) ?_
                intro v wx hR hd
                have h12 : v 12 = _ := hd 12 (by simp)
                exact ⟨hq.yes rfl rfl rfl h12, _, _, x_move rfl (fill_off rfl rfl), hR, Below.refl _ _, rfl⟩
              | 19, _ =>
                refine StepL.val rfl [12] (by decide +kernel) ?_
                intro v wx hR hd
                have h12 : v 12 = _ := hd 12 (by simp)
                exact ⟨hq.yes rfl rfl rfl h12, _, _, x_move rfl (fill_off rfl rfl), hR, Below.refl _ _, rfl⟩
              | 20, _ =>
                refine StepL.val rfl [12, 18, 19] (by decide +kernel) ?_
                intro v wx hR hd
                have h12 : v 12 = _ := hd 12 (by simp)
                have h18 : v 18 = _ := hd 18 (by simp)
                have h19 : v 19 = _ := hd 19 (by simp)
                exact ⟨hq.yes rfl rfl rfl h12, _, _, x_index rfl (hq.at_ rfl h18) (hq.at_ rfl h19) (r_index (e := 54) (size := 4) (by kernel_rfl) (by kernel_rfl) (by omega) (by omega) (by first | omega | simp)), hR, Below.refl _ _, rfl⟩
              | 21, _ =>
                refine StepL.val rfl [12, 20] (by decide +kernel) ?_
                intro v wx hR hd
                have h12 : v 12 = _ := hd 12 (by simp)
                have h20 : v 20 = _ := hd 20 (by simp)
                exact ⟨hq.yes rfl rfl rfl h12, _, _, x_field rfl (hq.at_ rfl h20) (r_field (off := 1) (by kernel_rfl)), hR, Below.refl _ _, rfl⟩
              | 22, _ =>
                refine StepL.val rfl [12, 21] (by decide +kernel) ?_
                intro v wx hR hd
                have h12 : v 12 = _ := hd 12 (by simp)
                have h21 : v 21 = _ := hd 21 (by simp)
                exact ⟨hq.yes rfl rfl rfl h12, _, _, x_load rfl (hq.at_ rfl h21) (r_load (by kernel_rfl) (pcell_below s1 hR)), hR, Below.refl _ _, rfl⟩
              | 23, _ =>
                refine StepL.val rfl [12, 17, 22] (by decide +kernel) ?_
                intro v wx hR hd
                have h12 : v 12 = _ := hd 12 (by simp)
                have h17 : v 17 = _ := hd 17 (by simp)
                have h22 : v 22 = _ := hd 22 (by simp)
                exact ⟨hq.yes rfl rfl rfl h12, _, _, x_bin rfl (hq.at_ rfl h17) (hq.at_ rfl h22) (r_neq (by simp [hk])), hR, Below.refl _ _, rfl⟩
              | 24, _ =>
                refine StepL.val rfl [12, 23] (by decide +kernel) ?_
                intro v wx hR hd
                have h12 : v 12 = _ := hd 12 (by simp)
                have h23 : v 23 = _ := hd 23 (by simp)
                exact ⟨wanted_plain rfl _, _, _, x_pick_no rfl (hq.at_ rfl h12) (hq.at_ rfl h23), hR, Below.refl _ _, rfl⟩
              | 25, _ =>
                refine StepL.val rfl [24] (by decide +kernel) ?_
                intro v wx hR hd
                have h24 : v 24 = _ := hd 24 (by simp)
                exact ⟨wanted_plain rfl _, _, _, x_move rfl (hq.at_ rfl h24), hR, Below.refl _ _, rfl⟩
              | 26, _ =>
                refine StepL.skip rfl [25] (by decide +kernel) ?_
                intro v wx hR hd
                have h25 : v 25 = _ := hd 25 (by simp)
                exact ⟨hq.no rfl rfl rfl h25 rfl, Below.refl _ _, rfl⟩
              | 27, _ =>
                refine StepL.skip rfl [25] (by decide +kernel) ?_
                intro v wx hR hd
                have h25 : v 25 = _ := hd 25 (by simp)
                exact ⟨hq.no rfl rfl rfl h25 rfl, Below.refl _ _, rfl⟩
              | 28, _ =>
                refine StepL.skip rfl [25] (by decide +kernel) ?_
                intro v wx hR hd
                have h25 : v 25 = _ := hd 25 (by simp)
                exact ⟨hq.no rfl rfl rfl h25 rfl, Below.refl _ _, rfl⟩
              | 29, _ =>
                refine StepL.skip rfl [25] (by decide +kernel) ?_
                intro v wx hR hd
                have h25 : v 25 = _ := hd 25 (by simp)
                exact ⟨hq.no rfl rfl rfl h25 rfl, Below.refl _ _, rfl⟩
              | 30, _ =>
                refine StepL.skip rfl [25] (by decide +kernel) ?_
                intro v wx hR hd
                have h25 : v 25 = _ := hd 25 (by simp)
                exact ⟨hq.no rfl rfl rfl h25 rfl, Below.refl _ _, rfl⟩
              | 31, _ =>
                refine StepL.skip rfl [25] (by decide +kernel) ?_
                intro v wx hR hd
                have h25 : v 25 = _ := hd 25 (by simp)
                exact ⟨hq.no rfl rfl rfl h25 rfl, Below.refl _ _, rfl⟩
              | 32, _ =>
                refine StepL.skip rfl [25] (by decide +kernel) ?_
                intro v wx hR hd
                have h25 : v 25 = _ := hd 25 (by simp)
                exact ⟨hq.no rfl rfl rfl h25 rfl, Below.refl _ _, rfl⟩
              | 33, _ =>
                refine StepL.skip rfl [25] (by decide +kernel) ?_
                intro v wx hR hd
                have h25 : v 25 = _ := hd 25 (by simp)
                exact ⟨hq.no rfl rfl rfl h25 rfl, Below.refl _ _, rfl⟩
              | 34, _ =>
                refine StepL.skip rfl [25] (by decide +kernel) ?_
                intro v wx hR hd
                have h25 : v 25 = _ := hd 25 (by simp)
                exact ⟨hq.no rfl rfl rfl h25 rfl, Below.refl _ _, rfl⟩
              | 35, _ =>
                refine StepL.skip rfl [25] (by decide +kernel) ?_
                intro v wx hR hd
                have h25 : v 25 = _ := hd 25 (by simp)
                exact ⟨hq.no rfl rfl rfl h25 rfl, Below.refl _ _, rfl⟩
              | 36, _ =>
                refine StepL.skip rfl [25] (by decide +kernel) ?_
                intro v wx hR hd
                have h25 : v 25 = _ := hd 25 (by simp)
                exact ⟨hq.no rfl rfl rfl h25 rfl, Below.refl _ _, rfl⟩
              | 37, _ =>
                refine StepL.val rfl [25, 36] (by decide +kernel) ?_
                intro v wx hR hd
                have h25 : v 25 = _ := hd 25 (by simp)
                have h36 : v 36 = _ := hd 36 (by simp)
                exact ⟨wanted_plain rfl _, _, _, x_pick_yes rfl (hq.at_ rfl h25) rfl, hR, Below.refl _ _, rfl⟩
              | 38, _ =>
                refine StepL.val rfl [37] (by decide +kernel) ?_
                intro v wx hR hd
                have h37 : v 37 = _ := hd 37 (by simp)
                exact ⟨wanted_plain rfl _, _, _, x_move rfl (hq.at_ rfl h37), hR, Below.refl _ _, rfl⟩
              | 39, _ =>
                refine StepL.skip rfl [38] (by decide +kernel) ?_
                intro v wx hR hd
                have h38 : v 38 = _ := hd 38 (by simp)
                exact ⟨hq.no rfl rfl rfl h38 rfl, Below.refl _ _, rfl⟩
              | 40, _ =>
                refine StepL.skip rfl [38] (by decide +kernel) ?_
                intro v wx hR hd
                have h38 : v 38 = _ := hd 38 (by simp)
                exact ⟨hq.no rfl rfl rfl h38 rfl, Below.refl _ _, rfl⟩
              | 41, _ =>
                refine StepL.skip rfl [38] (by decide +kernel) ?_
                intro v wx hR hd
                have h38 : v 38 = _ := hd 38 (by simp)
                exact ⟨hq.no rfl rfl rfl h38 rfl, Below.refl _ _, rfl⟩
              | 42, _ =>
                refine StepL.skip rfl [38] (by decide +kernel) ?_
                intro v wx hR hd
                have h38 : v 38 = _ := hd 38 (by simp)
                exact ⟨hq.no rfl rfl rfl h38 rfl, Below.refl _ _, rfl⟩
              | 43, _ =>
                refine StepL.skip rfl [38] (by decide +kernel) ?_
                intro v wx hR hd
                have h38 : v 38 = _ := hd 38 (by simp)
                exact ⟨hq.no rfl rfl rfl h38 rfl, Below.refl _ _, rfl⟩
              | 44, _ =>
                refine StepL.skip rfl [38] (by decide +kernel) ?_
                intro v wx hR hd
                have h38 : v 38 = _ := hd 38 (by simp)
                exact ⟨hq.no rfl rfl rfl h38 rfl, Below.refl _ _, rfl⟩
              | 45, _ =>
                refine StepL.skip rfl [38] (by decide +kernel) ?_
                intro v wx hR hd
                have h38 : v 38 = _ := hd 38 (by simp)
                exact ⟨hq.no rfl rfl rfl h38 rfl, Below.refl _ _, rfl⟩
              | 46, _ =>
                refine StepL.skip rfl [38] (by decide +kernel) ?_
                intro v wx hR hd
                have h38 : v 38 = _ := hd 38 (by simp)
                exact ⟨hq.no rfl rfl rfl h38 rfl, Below.refl _ _, rfl⟩
              | 47, _ =>
                refine StepL.skip rfl [38] (by decide +kernel) ?_
                intro v wx hR hd
                have h38 : v 38 = _ := hd 38 (by simp)
                exact ⟨hq.no rfl rfl rfl h38 rfl, Below.refl _ _, rfl⟩
              | 48, _ =>
                refine StepL.skip rfl [38] (by decide +kernel) ?_
                intro v wx hR hd
                have h38 : v 38 = _ := hd 38 (by simp)
                exact ⟨hq.no rfl rfl rfl h38 rfl, Below.refl _ _, rfl⟩
              | 49, _ =>
                refine StepL.skip rfl [38] (by decide +kernel) ?_
                intro v wx hR hd
                have h38 : v 38 = _ := hd 38 (by simp)
                exact ⟨hq.no rfl rfl rfl h38 rfl, Below.refl _ _, rfl⟩
              | 50, _ =>
                refine StepL.skip rfl [38] (by decide +kernel) ?_
                intro v wx hR hd
                have h38 : v 38 = _ := hd 38 (by simp)
                exact ⟨hq.no rfl rfl rfl h38 rfl, Below.refl _ _, rfl⟩
              | 51, _ =>
                refine StepL.val rfl [38, 50] (by decide +kernel) ?_
                intro v wx hR hd
                have h38 : v 38 = _ := hd 38 (by simp)
                have h50 : v 50 = _ := hd 50 (by simp)
                exact ⟨wanted_plain rfl _, _, _, x_pick_yes rfl (hq.at_ rfl h38) rfl, hR, Below.refl _ _, rfl⟩
              | rz + 52, h => omega
            · intro v wx hR hV
              have h51 : v 51 = _ := hV 51 (by omega)
              have HR := Lib.hid (HW.out.trans (hR.mono HW.out.size))
              simp only [fillR, Act.put, List.setIfInBounds_toArray, List.set_cons_zero, List.set_cons_succ, h51]
              clear hV hR h51 q0 q1 q2 q3 s0 s1 s2 s3
              have HQ : Hid (decide (es = fs) = false) := Lib.hid (en_ne2 HT.out.1 HT.out.2 (fun e => by exact hk (by rw [← HC.out.1.kind, ← HC.out.2.kind, e])))
              go_wp2_with fail
              go_ret
              exact ⟨pret_bool (by rw [HQ.out]), HR.out⟩
      · obtain rfl : i = n := by omega
        have HQ : Hid (decide (es = fs) = true) := Lib.hid (decide_eq_true (en_ext (by rw [HL.out.1, HL.out.2]) fun j x y hx hy => HK.out j x y (by have := (List.getElem?_eq_some_iff.1 hx).1; have := HL.out.1; omega) hx hy))
        go_wp2_with fail
        go_ret
        exact ⟨pret_bool (by rw [HQ.out]), HW.out⟩
  · have HQ : Hid (decide (es = fs) = false) := Lib.hid (decide_eq_false (fun e => by have h1 := HL.out.1; have h2 := HL.out.2; rw [e] at h1; omega))
    have hd : ¬ (n : Int) = m := by omega
    go_enter Tryz.func7, Tryz.ntmps7
    go_wp2_with fail
    go_ret
    exact ⟨pret_bool (by rw [HQ.out]), Below.refl _ _⟩
end Go.Proofs.YtlpljedacohngaaGreatDoor
end
