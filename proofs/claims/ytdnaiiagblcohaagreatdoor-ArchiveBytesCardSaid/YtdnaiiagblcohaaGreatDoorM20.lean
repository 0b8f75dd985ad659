/-
  Whether two lists of entries are the same, as the program tells it. Condition: the entries lie in memory.
-/
import Derived.Test.YtdnaiiagblcohaaGreatDoorM18
import Derived.Test.YtdnaiiagblcohaaGreatDoorM16
import Derived.Test.YtdnaiiagblcohaaGreatDoorM13
import Derived.Test.YtdnaiiagblcohaaGreatDoorM15
import Derived.Test.YtdnaiiagblcohaaGreatDoorM4
section
set_option linter.unusedSimpArgs false
set_option linter.unusedVariables false
set_option maxRecDepth 100000
namespace Go.Proofs.YtdnaiiagblcohaaGreatDoor
open Go.RowKit

instance : DecidableEq En := fun a b => decidable_of_iff _ (sameE_iff a b)
theorem blk_range {w : World} {g t : Nat} {cs : List Value} (h : Blk w g t cs) : w.rangeAt g 0 cs := fun j v hj => by rw [Nat.zero_add, h.cell]; exact hj
theorem en_ne {p q : List En} {i : Nat} {a b : En} (h1 : p[i]? = some a) (h2 : q[i]? = some b) (h : sameE a b = false) : decide (p = q) = false := by
  refine decide_eq_false fun e => ?_
  subst e
  rw [h1] at h2
  cases h2
  have := (sameE_iff a a).2 rfl
  rw [h] at this
  cases this
set_option maxHeartbeats 4000000 in
theorem equalf_any (w : World) (A : Option Addr) (n c : Nat) (xs : List Ev) (es : List En) (h : EIn w A n c xs es) (B : Option Addr) (m d : Nat) (ys : List Ev) (fs : List En) (k : EIn w B m d ys fs) :
    Calls Tryz.prog 48 #[.slice A n c, .slice B m d, .func (.func 49) #[] #[]] w fun e w' => e = .returned (.bool (decide (es = fs))) ∧ Below w.heap.size w w' := by
  have hbig : n ≤ 9223372036854775807 := by have := h.cap; have := h.big; omega
  have H := Lib.hid (And.intro h k)
  have HL := Lib.hid (And.intro h.elen k.elen)
  clear h k
  by_cases hnm : n = m
  · subst hnm
    go_enter Tryz.func48, Tryz.ntmps48
    go_wp2_with fail
    go_loopw [17] (fun iv wr => ∃ i : Nat, i ≤ n ∧ iv = .int .i64 i ∧ Hid (∀ (j : Nat) t u, j < i → es[j]? = some t → fs[j]? = some u → t = u) ∧ Hid (Below w.heap.size w wr)) (fun iv _ => n - (intOf iv).toNat)
    case atStart => exact ⟨0, by omega, rfl, Lib.hid (fun j t u h => absurd h (by omega)), Lib.hid (Below.refl _ _)⟩
    case round =>
      obtain ⟨i, hi, rfl, HK, HW⟩ := hrel
      by_cases hlt : i < n
      · obtain ⟨g, o, x, a, rfl, hg, hx, ha, hok, hcl⟩ := (H.out.1.below HW.out).row hlt
        obtain ⟨g2, o2, y, b, rfl, hg2, hy, hb, hok2, hcl2⟩ := (H.out.2.below HW.out).row hlt
        have HC := Lib.hid (And.intro hcl (And.intro hcl2 (And.intro hok hok2)))
        have HT := Lib.hid (And.intro ha hb)
        have HZ := Lib.hid (Blk.new wr 52 [.slice none 0 0, .int .i64 0, .int .i64 0, .slice none 0 0])
        have HG := Lib.hid (And.intro hg hg2)
        have b0 : (0 : Int) ≤ (i : Int) := by omega
        have b1 : (i : Int) < (n : Int) := by omega
        clear hx ha hok hcl hy hb hok2 hcl2 hg hg2
        go_wp2_with (first
          | (refine wpList_load_mid rfl 52 (.tmp 20) rfl g (o + i * 4) rfl _ _ HC.out.1 Tryz.underlying52 rfl infoEv ?_)
          | (refine wpList_store_blk rfl 52 (.tmp 8) (.tmp 21) rfl wr.heap.size 0 (evC x) rfl rfl HZ.out (by simp [evC]) infoEv (evC_one _) ?_; intro w2 hA hO; rw [over_whole (by simp [evC])] at hA; obtain ⟨d0, d1, d2, d3⟩ := four_ev hA; have H2 := Lib.hid (And.intro hA (And.intro ((pnew wr _).trans (hO.below (B := wr.heap.size) (by simp) (by simp))) (Blk.new w2 52 [.slice none 0 0, .int .i64 0, .int .i64 0, .slice none 0 0]))); clear hA hO)
          | (refine wpList_load_mid rfl 52 (.tmp 24) rfl g2 (o2 + i * 4) rfl _ _ (range_ev HC.out.2.1 H2.out.2.1) Tryz.underlying52 rfl infoEv ?_)
          | (refine wpList_store_blk rfl 52 (.tmp 9) (.tmp 25) rfl w2.heap.size 0 (evC y) rfl rfl H2.out.2.2 (by simp [evC]) infoEv (evC_one _) ?_; intro w3 hA hO; rw [over_whole (by simp [evC])] at hA; obtain ⟨f0, f1, f2, f3⟩ := four_ev hA; have H3 := Lib.hid (And.intro hA (And.intro (H2.out.2.1.trans (((pnew w2 _).trans (hO.below (B := w2.heap.size) (by simp) (by simp))).mono H2.out.2.1.size)) (H2.out.1.below (((pnew w2 _).trans (hO.below (B := w2.heap.size) (by simp) (by simp)))) H2.out.1.lt))); clear hA hO)
          | (refine wpList_load_mid rfl 52 (.tmp 8) rfl wr.heap.size 0 rfl _ _ (blk_range H3.out.2.2) Tryz.underlying52 rfl infoEv ?_)
          | (refine wpList_load_mid rfl 52 (.tmp 9) rfl w2.heap.size 0 rfl _ _ (blk_range H3.out.1) Tryz.underlying52 rfl infoEv ?_))
        refine (same12_any w3 x y a b (HC.out.2.2.1.below H3.out.2.1) (HC.out.2.2.2.below H3.out.2.1)).mono ?_
        rintro en w4 ⟨rfl, h4⟩
        have H4 := Lib.hid (HW.out.trans ((H3.out.2.1.trans (h4.mono H3.out.2.1.size)).mono HW.out.size))
        clear h4
        cases hs : sameE a b with
        | true =>
          have HE := Lib.hid ((sameE_iff a b).1 hs)
          clear hs
          go_wp2_with fail
          go_roundw
          case rel => exact ⟨i + 1, by omega, by go_num, Lib.hid (fun j x y hj hx hy => by
            by_cases h : j < i
            · exact HK.out j x y h hx hy
            · obtain rfl : j = i := by omega
              have h1 := HT.out.1
              have h2 := HT.out.2
              rw [hx] at h1
              rw [hy] at h2
              cases h1
              cases h2
              exact HE.out), H4⟩
          case measure => simp [intOf]; omega
        | false =>
          have HQ := Lib.hid (en_ne HT.out.1 HT.out.2 hs)
          clear hs
          go_wp2_with fail
          go_ret
          exact ⟨pret_bool (by rw [HQ.out]), H4.out⟩
      · obtain rfl : i = n := by omega
        have HQ : Hid (decide (es = fs) = true) := Lib.hid (decide_eq_true (en_ext (by rw [HL.out.1, HL.out.2]) fun j x y hx hy => HK.out j x y (by have := (List.getElem?_eq_some_iff.1 hx).1; have := HL.out.1; omega) hx hy))
        go_wp2_with fail
        go_ret
        exact ⟨pret_bool (by rw [HQ.out]), HW.out⟩
  · have HQ : Hid (decide (es = fs) = false) := Lib.hid (decide_eq_false (fun e => by have h1 := HL.out.1; have h2 := HL.out.2; rw [e] at h1; omega))
    have hd : ¬ (n : Int) = m := by omega
    go_enter Tryz.func48, Tryz.ntmps48
    go_wp2_with fail
    go_ret
    exact ⟨pret_bool (by rw [HQ.out]), Below.refl _ _⟩
set_option maxHeartbeats 1000000 in
theorem asame_any (w : World) (A : Option Addr) (n c : Nat) (xs : List Ev) (es : List En) (h : EIn w A n c xs es) (B : Option Addr) (m d : Nat) (ys : List Ev) (fs : List En) (k : EIn w B m d ys fs) :
    Calls Tryz.prog 18 #[.slice A n c, .slice B m d] w fun e w' => e = .returned (.bool (decide (es = fs))) ∧ Below w.heap.size w w' := by
  have H := Lib.hid (equalf_any w A n c xs es h B m d ys fs k)
  clear h k
  go_enter Tryz.func18, Tryz.ntmps18
  go_wp2_with fail
  refine H.out.mono ?_
  rintro e w1 ⟨rfl, h1⟩
  have H1 := Lib.hid h1
  clear h1
  go_wp2_with fail
  go_ret
  exact ⟨rfl, H1.out⟩
end Go.Proofs.YtdnaiiagblcohaaGreatDoor
end

/-
  The document's entries of the program's. Condition: the entries lie in memory.
-/

section
set_option linter.unusedSimpArgs false
set_option linter.unusedVariables false
set_option maxRecDepth 100000
namespace Go.Proofs.YtdnaiiagblcohaaGreatDoor
open Go.RowKit

set_option maxHeartbeats 4000000 in
theorem of12_any (w : World) (A : Option Addr) (n c : Nat) (xs : List Ev) (es : List En) (h : EIn w A n c xs es) (hn : n ≤ 100) :
    Calls Tryz.prog 20 #[.slice A n c] w fun e w' => ∃ B d, e = .returned (.slice B n d) ∧ EIn w' B n d xs es ∧ Below w.heap.size w w' := by
  have H := Lib.hid h
  have HL := Lib.hid (And.intro h.len h.elen)
  clear h
  go_enter Tryz.func20, Tryz.ntmps20
  go_wp2_with fail
  go_loopw [3, 4] (fun u3 iv wr => ∃ i : Nat, i ≤ n ∧ iv = .int .i64 i ∧ Hid (wr.ownsRow w.heap.size 90 4 u3 i (rowE (xs.take i))) ∧ Hid (Below w.heap.size w wr)) (fun _ iv _ => n - (intOf iv).toNat)
  case atStart => exact ⟨0, by omega, rfl, Lib.hid (World.ownsRow_nil _ _ _ _), Lib.hid (Below.refl _ _)⟩
  case round =>
    obtain ⟨i, hi, rfl, HO, HW⟩ := hrel
    by_cases hlt : i < n
    · obtain ⟨g, o, x, a, rfl, hg, hx, ha, hok, hcl⟩ := (H.out.below HW.out).row hlt
      have q0 : wr.cell? ⟨g, o + i * 4, none⟩ = some (.slice x.PA x.pn x.pc) := hcl 0 _ rfl
      have q1 : wr.cell? ⟨g, o + i * 4 + 1, none⟩ = some (.int .i64 x.k) := hcl 1 _ rfl
      have q2 : wr.cell? ⟨g, o + i * 4 + 2, none⟩ = some (.int .i64 x.m) := hcl 2 _ rfl
      have q3 : wr.cell? ⟨g, o + i * 4 + 3, none⟩ = some (.slice x.DA x.dn x.dc) := hcl 3 _ rfl
      have HX := Lib.hid hx
      have b0 : (0 : Int) ≤ (i : Int) := by omega
      have b1 : (i : Int) < (n : Int) := by omega
      clear hx ha hok hcl hg
      go_wp2_with fail
      refine wp_hideQ ?_
      intro QQ hQQ
      refine wp_region_quickT [some 11, some 12, some 13, some 14, some 15, some 16, some 17, some 18, some 19, some 20, some 21, some 22, some 23, some 24, some 25, some 26, some 27, some 28, some 29, some 30, some 31, some 32, some 33] [isV (u3), isV (.slice (some ⟨g, o, none⟩) n c), isV (.int .i64 (i : Int)), isV (.pointer (some ⟨g, o + i * 4, none⟩)), isV (.pointer (some ⟨g, o + i * 4, none⟩)), isV (.slice x.PA x.pn x.pc), isV (.slice (some ⟨g, o, none⟩) n c), isV (.int .i64 (i : Int)), isV (.pointer (some ⟨g, o + i * 4, none⟩)), isV (.pointer (some ⟨g, o + i * 4 + 1, none⟩)), isV (.int .i64 x.k), isV (.slice (some ⟨g, o, none⟩) n c), isV (.int .i64 (i : Int)), isV (.pointer (some ⟨g, o + i * 4, none⟩)), isV (.pointer (some ⟨g, o + i * 4 + 2, none⟩)), isV (.int .i64 x.m), isV (.slice (some ⟨g, o, none⟩) n c), isV (.int .i64 (i : Int)), isV (.pointer (some ⟨g, o + i * 4, none⟩)), isV (.pointer (some ⟨g, o + i * 4 + 3, none⟩)), isV (.slice x.DA x.dn x.dc), isV (evV (x : Ev)), rowOneE 90 wr.heap.size (evC x)] 23 25 (by kernel_rfl) rfl rfl rfl rfl (by kernel_rfl) (by kernel_rfl) (by simp [isV.st, rowOneE.st]) ?_ ?_
      · intro hq rz hz
        match rz, hz with
        | 0, _ =>
          refine StepL.val rfl [] (by decide +kernel) ?_
          intro v wx hR hd
          exact ⟨wanted_plain rfl _, _, _, x_move rfl (fill_off rfl rfl), hR, Below.refl _ _, rfl⟩
        | 1, _ =>
          refine StepL.val rfl [] (by decide +kernel) ?_
          intro v wx hR hd
          exact ⟨wanted_plain rfl _, _, _, x_move rfl (fill_off rfl rfl), hR, Below.refl _ _, rfl⟩
        | 2, _ =>
          refine StepL.val rfl [] (by decide +kernel) ?_
          intro v wx hR hd
          exact ⟨wanted_plain rfl _, _, _, x_move rfl (fill_off rfl rfl), hR, Below.refl _ _, rfl⟩
        | 3, _ =>
          refine StepL.val rfl [1, 2] (by decide +kernel) ?_
          intro v wx hR hd
          have h1 : v 1 = _ := hd 1 (by simp)
          have h2 : v 2 = _ := hd 2 (by simp)
          exact ⟨wanted_plain rfl _, _, _, x_index rfl (hq.at_ rfl h1) (hq.at_ rfl h2) (r_index (e := 52) (size := 4) (by kernel_rfl) (by kernel_rfl) (by omega) (by omega) (by first | omega | simp)), hR, Below.refl _ _, rfl⟩
        | 4, _ =>
          refine StepL.val rfl [3] (by decide +kernel) ?_
          intro v wx hR hd
          have h3 : v 3 = _ := hd 3 (by simp)
          exact ⟨wanted_plain rfl _, _, _, x_field rfl (hq.at_ rfl h3) (r_field (off := 0) (by kernel_rfl)), hR, Below.refl _ _, rfl⟩
        | 5, _ =>
          refine StepL.val rfl [4] (by decide +kernel) ?_
          intro v wx hR hd
          have h4 : v 4 = _ := hd 4 (by simp)
          exact ⟨wanted_plain rfl _, _, _, x_load rfl (hq.at_ rfl h4) (r_load (by kernel_rfl) (pcell_below q0 hR)), hR, Below.refl _ _, rfl⟩
        | 6, _ =>
          refine StepL.val rfl [] (by decide +kernel) ?_
          intro v wx hR hd
          exact ⟨wanted_plain rfl _, _, _, x_move rfl (fill_off rfl rfl), hR, Below.refl _ _, rfl⟩
        | 7, _ =>
          refine StepL.val rfl [] (by decide +kernel) ?_
          intro v wx hR hd
          exact ⟨wanted_plain rfl _, _, _, x_move rfl (fill_off rfl rfl), hR, Below.refl _ _, rfl⟩
        | 8, _ =>
          refine StepL.val rfl [6, 7] (by decide +kernel) ?_
          intro v wx hR hd
          have h6 : v 6 = _ := hd 6 (by simp)
          have h7 : v 7 = _ := hd 7 (by simp)
          exact ⟨wanted_plain rfl _, _, _, x_index rfl (hq.at_ rfl h6) (hq.at_ rfl h7) (r_index (e := 52) (size := 4) (by kernel_rfl) (by kernel_rfl) (by omega) (by omega) (by first | omega | simp)), hR, Below.refl _ _, rfl⟩
        | 9, _ =>
          refine StepL.val rfl [8] (by decide +kernel) ?_
          intro v wx hR hd
          have h8 : v 8 = _ := hd 8 (by simp)
          exact ⟨wanted_plain rfl _, _, _, x_field rfl (hq.at_ rfl h8) (r_field (off := 1) (by kernel_rfl)), hR, Below.refl _ _, rfl⟩
        | 10, _ =>
          refine StepL.val rfl [9] (by decide +kernel) ?_
          intro v wx hR hd
          have h9 : v 9 = _ := hd 9 (by simp)
          exact ⟨wanted_plain rfl _, _, _, x_load rfl (hq.at_ rfl h9) (r_load (by kernel_rfl) (pcell_below q1 hR)), hR, Below.refl _ _, rfl⟩
        | 11, _ =>
          refine StepL.val rfl [] (by decide +kernel) ?_
          intro v wx hR hd
          exact ⟨wanted_plain rfl _, _, _, x_move rfl (fill_off rfl rfl), hR, Below.refl _ _, rfl⟩
        | 12, _ =>
          refine StepL.val rfl [] (by decide +kernel) ?_
          intro v wx hR hd
          exact ⟨wanted_plain rfl _, _, _, x_move rfl (fill_off rfl rfl), hR, Below.refl _ _, rfl⟩
        | 13, _ =>
          refine StepL.val rfl [11, 12] (by decide +kernel) ?_
          intro v wx hR hd
          have h11 : v 11 = _ := hd 11 (by simp)
          have h12 : v 12 = _ := hd 12 (by simp)
          exact ⟨wanted_plain rfl _, _, _, x_index rfl (hq.at_ rfl h11) (hq.at_ rfl h12) (r_index (e := 52) (size := 4) (by kernel_rfl) (by kernel_rfl) (by omega) (by omega) (by first | omega | simp)), hR, Below.refl _ _, rfl⟩
        | 14, _ =>
          refine StepL.val rfl [13] (by decide +kernel) ?_
          intro v wx hR hd
          have h13 : v 13 = _ := hd 13 (by simp)
          exact ⟨wanted_plain rfl _, _, _, x_field rfl (hq.at_ rfl h13) (r_field (off := 2) (by kernel_rfl)), hR, Below.refl _ _, rfl⟩
        | 15, _ =>
          refine StepL.val rfl [14] (by decide +kernel) ?_
          intro v wx hR hd
          have h14 : v 14 = _ := hd 14 (by simp)
          exact ⟨wanted_plain rfl _, _, _, x_load rfl (hq.at_ rfl h14) (r_load (by kernel_rfl) (pcell_below q2 hR)), hR, Below.refl _ _, rfl⟩
        | 16, _ =>
          refine StepL.val rfl [] (by decide +kernel) ?_
          intro v wx hR hd
          exact ⟨wanted_plain rfl _, _, _, x_move rfl (fill_off rfl rfl), hR, Below.refl _ _, rfl⟩
        | 17, _ =>
          refine StepL.val rfl [] (by decide +kernel) ?_
          intro v wx hR hd
          exact ⟨wanted_plain rfl _, _, _, x_move rfl (fill_off rfl rfl), hR, Below.refl _ _, rfl⟩
        | 18, _ =>
          refine StepL.val rfl [16, 17] (by decide +kernel) ?_
          intro v wx hR hd
          have h16 : v 16 = _ := hd 16 (by simp)
          have h17 : v 17 = _ := hd 17 (by simp)
          exact ⟨wanted_plain rfl _, _, _, x_index rfl (hq.at_ rfl h16) (hq.at_ rfl h17) (r_index (e := 52) (size := 4) (by kernel_rfl) (by kernel_rfl) (by omega) (by omega) (by first | omega | simp)), hR, Below.refl _ _, rfl⟩
        | 19, _ =>
          refine StepL.val rfl [18] (by decide +kernel) ?_
          intro v wx hR hd
          have h18 : v 18 = _ := hd 18 (by simp)
          exact ⟨wanted_plain rfl _, _, _, x_field rfl (hq.at_ rfl h18) (r_field (off := 3) (by kernel_rfl)), hR, Below.refl _ _, rfl⟩
        | 20, _ =>
          refine StepL.val rfl [19] (by decide +kernel) ?_
          intro v wx hR hd
          have h19 : v 19 = _ := hd 19 (by simp)
          exact ⟨wanted_plain rfl _, _, _, x_load rfl (hq.at_ rfl h19) (r_load (by kernel_rfl) (pcell_below q3 hR)), hR, Below.refl _ _, rfl⟩
        | 21, _ =>
          refine StepL.val rfl [5, 10, 15, 20] (by decide +kernel) ?_
          intro v wx hR hd
          have h5 : v 5 = _ := hd 5 (by simp)
          have h10 : v 10 = _ := hd 10 (by simp)
          have h15 : v 15 = _ := hd 15 (by simp)
          have h20 : v 20 = _ := hd 20 (by simp)
          exact ⟨wanted_plain rfl _, xe_ex (x_build rfl (pairs_4 (hq.at_ rfl h5) (hq.at_ rfl h10) (hq.at_ rfl h15) (hq.at_ rfl h20)) (build_rev wx _ _ _ _ _ _ _ _)) ⟨hR, Below.refl _ _, rfl⟩⟩
        | 22, _ =>
          refine StepL.val rfl [21] (by decide +kernel) ?_
          intro v wx hR hd
          have h21 : v 21 = _ := hd 21 (by simp)
          have hb := pnew wx (.cells (evC x).toArray 90)
          exact ⟨wanted_plain rfl _, xe_ex (x_slice rfl (pairs_1 (hq.at_ rfl h21)) (slice_rev12 wx x)) ⟨hR.trans (hb.mono hR.size), hb, _, rfl, hR.size, Blk.new wx 90 (evC x)⟩⟩
        | rz + 23, h => omega
      · intro v wx hR hV
        obtain ⟨p22, h22, hp22, hk22⟩ : rowOneE 90 wr.heap.size (evC x) (v 22) wx := hV 22 (by omega)
        have h0 : v 0 = _ := hV 0 (by omega)
        simp only [fillR, Act.put, List.setIfInBounds_toArray, List.set_cons_zero, List.set_cons_succ, List.drop_succ_cons, List.drop_zero, h0, h22]
        have hu := ownsRow_only (S := []) HO.out (Only.of_below hR) (by simp)
        refine wpList_app (v := u3) (base := w.heap.size) (n := i) rfl rfl Tryz.underlying22 rev_info12 rfl (by decide) (evC x) rfl hu rfl rfl (fun _ => ⟨_, _, rfl, fun j u hu => by rw [Nat.zero_add]; exact (hk22.cell j).trans hu⟩) (evC_one _) (by omega) (by decide) (Nat.le_trans HW.out.size hR.size) ?_
        intro v5 w4 k1 k2 k3
        rw [show rowE (xs.take i) ++ evC x = rowE (xs.take (i + 1)) by rw [List.take_add_one, HX.out, Option.toList_some, rowE_snoc]] at k1
        have HF := Lib.hid (And.intro k1 ((HW.out.trans (hR.mono HW.out.size)).trans (k2.below (Nat.le_trans HW.out.size hR.size) (fun k hk => (hu.lt k (by simpa using hk)).1))))
        clear k1 k2 k3 hR hV h0 h22 hp22 hk22 hu q0 q1 q2 q3
        go_wp2_with fail
        exact ⟨⟨i + 1, by omega, by go_num, Lib.hid HF.out.1, Lib.hid HF.out.2⟩, by simp [intOf]; omega⟩
    · obtain rfl : i = n := by omega
      have HE : Hid (xs.take i = xs) := Lib.hid (by rw [← HL.out.1, List.take_length])
      have hu := HO.out
      rw [HE.out] at hu
      obtain ⟨B, d, rfl, h1⟩ := ein_row hu HL.out.1 HL.out.2 (fun j y f hy hf => (H.out.ok j y f hy hf).below HW.out)
      have HF := Lib.hid h1
      clear hu h1 HO
      go_wp2_with fail
      go_ret
      exact ⟨B, d, rfl, HF.out, HW.out⟩
end Go.Proofs.YtdnaiiagblcohaaGreatDoor
end
