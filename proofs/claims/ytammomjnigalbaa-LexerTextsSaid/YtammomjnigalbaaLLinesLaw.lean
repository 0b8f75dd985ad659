/-
  The law LexerLines: true of any text. Condition: a size that any text has.
-/
import Derived.Test.YtammomjnigalbaaLLinesP
set_option linter.unusedSimpArgs false
set_option linter.unusedVariables false
set_option maxRecDepth 100000
namespace Go.Proofs.Ytammomjnigalbaa
open Go.RowKit

theorem r_neqs {P : Program} {w : World} {t : TypeId} {x k : Operand} {a b : ByteArray} (h : a = b) : (do eqGuard .neq t x k (.string a) (.string b); binOp .neq t (.string a) (.string b) : Sem Value).run P w = .ok (.bool false) w := by
  subst h; simp [eqGuard, binOp_string_neq]
theorem x_subs {P : Program} {ρ : Operand → Value} {o : Oper} {w : World} {t : TypeId} {x k l : Operand} {s u : ByteArray} {i j : Nat} (ho : o.op = .slice t x (some k) (some l) none) (ht : P.underlying t = some .string) (hx : ρ x = .string s) (hk : ρ k = .int .i64 (i : Int)) (hl : ρ l = .int .i64 (j : Int)) (h1 : i ≤ j) (h2 : j ≤ s.size) (hu : s.extract i j = u) : (execOp ρ o).run P w = .ok (.value (.string u)) w := by
  unfold execOp
  rw [ho]
  simp only [hx, hk, hl, Option.map_some, Option.map_none]
  have hs := run_sliceAt_string (P := P) w t (.string s) (some (.int .i64 (i : Int))) (some (.int .i64 (j : Int))) none ht
  have hh := run_slice_string (P := P) w t s .i64 .i64 (i : Int) (j : Int) ht (by omega) (by omega) (by omega)
  simp only [Sem.run_bind, hs, hh]
  simp [Result.andThen, hu]
set_option maxHeartbeats 16000000 in
theorem lines_walk (w : World) (s0 : ByteArray) (h0 : s0.size ≤ 9223372036854775807) :
    Calls Try.prog 4 #[.string s0] w fun e w' => e = .returned (.bool true) ∧ Below w.heap.size w w' := by
  have b0 : (0 : Int) ≤ min (s0.size : Int) 2000 := by omega
  have b1 : min (s0.size : Int) 2000 ≤ (s0.size : Int) := by omega
  obtain ⟨S, hS⟩ : ∃ S, S = cutL s0 := ⟨_, rfl⟩
  have hs := cutL_size s0
  rw [← hS] at hs
  have HS := Lib.hid hS
  have HL := Lib.hid (bs_len S)
  clear hS
  go_enter Try.func4, Try.ntmps4
  go_wp2_with fail
  rw [show s0.extract 0 (min (s0.size : Int) 2000).toNat = S from HS.out.symm]
  refine (toks_is w S (by omega)).mono ?_
  rintro e w1 ⟨A, c, ts, L, E, rfl, hb1, hT, hE, hg1, hb1'⟩
  have hn1 : ts.length ≤ 800 := by
    by_cases h : E = 0
    · rw [(hg1 h).1]
      rw [(toks_small (by rw [bs_len]; omega)).1, h] at hE
      exact toks_few hE.symm
    · rw [(hb1' h).1]
      exact Nat.zero_le _
  have hbig := hT.big
  have hcap := hT.cap
  have H1 := Lib.hid (And.intro hT (And.intro hb1 (And.intro hE (And.intro hg1 hb1'))))
  obtain ⟨n, hn⟩ : ∃ n, n = ts.length := ⟨_, rfl⟩
  rw [← hn] at hn1 H1 hcap ⊢
  have HN := Lib.hid hn
  clear hT hb1 hE hg1 hb1' hn
  go_wp2_with fail
  go_loopw [6, 7] (fun lv iv wr => ∃ (k ln : Nat), k ≤ S.size ∧ iv = .int .i64 k ∧ lv = .int .i64 ln ∧ ln ≤ k + 1 ∧ Hid (ln = 1 + nlsL ((bsL S).take k)) ∧ Hid (Below w1.heap.size w1 wr)) (fun _ iv _ => S.size - (intOf iv).toNat)
  case atStart => exact ⟨0, 1, by omega, rfl, rfl, by omega, Lib.hid rfl, Lib.hid (Below.refl _ _)⟩
  case round =>
    obtain ⟨k, ln, hk, rfl, rfl, hln, HK, HW1⟩ := hrel
    by_cases hlt : k < S.size
    · obtain ⟨ch, hc⟩ : ∃ c, (bsL S)[k]? = some c := ⟨_, List.getElem?_eq_getElem (by rw [HL.out]; exact hlt)⟩
      have hx := fun W => bs_index S k ch hc W
      have hnx := nls_next hc
      have c0 : (0 : Int) ≤ (k : Int) := by omega
      have c1 : (k : Int) < (S.size : Int) := by omega
      by_cases h10 : (ch.toNat : Int) = 10
      · obtain ⟨f1, f2, f3, f4⟩ := eq_facts ch.toNat 10 h10
        have HF : Hid (ln + 1 = 1 + nlsL ((bsL S).take (k + 1))) := Lib.hid (by rw [hnx, if_pos (by omega), HK.out]; omega)
        clear h10 hnx hc
        go_wp2_with fail
        exact ⟨⟨k + 1, ln + 1, hlt, by rw [Int.natCast_succ], by rw [Int.natCast_succ], by omega, HF, HW1⟩, by simp [intOf]; omega⟩
      · obtain ⟨f1, f2, f3, f4⟩ := ne_facts ch.toNat 10 h10
        have HF : Hid (ln = 1 + nlsL ((bsL S).take (k + 1))) := Lib.hid (by rw [hnx, if_neg (by omega), HK.out]; omega)
        clear h10 hnx hc
        go_wp2_with fail
        exact ⟨⟨k + 1, ln, hlt, by rw [Int.natCast_succ], rfl, by omega, HF, HW1⟩, by simp [intOf]; omega⟩
    · obtain rfl : k = S.size := by omega
      generalize wr = wr0 at *
      have HQ0 := Lib.hid (And.intro (H1.out.1.below HW1.out) (H1.out.2.1.trans (HW1.out.mono H1.out.2.1.size)))
      have HK2 : Hid (ln = 1 + nlsL (bsL S)) := Lib.hid (by rw [HK.out, List.take_of_length_le (by rw [HL.out]; exact Nat.le_refl _)])
      by_cases hE0 : E = 0
      · have hG := H1.out.2.2.2.1 hE0
        have hL0 : L = 0 := hG.2
        have HTS : Hid (ts = (lexL 1 (bsL S)).ts) := Lib.hid hG.1
        have HX4 : Hid (LAt (bsL S) 0 0) := Lib.hid (LAt.start (by
          have h5 := H1.out.2.2.1
          rw [(toks_small (by rw [bs_len]; omega)).1, hE0] at h5
          exact (allE_zero h5.symm (lexL_err _ _)).2))
        subst hE0
        subst hL0
        clear hG
        go_wp2_with fail
        go_loopw [8, 9] (fun av iv wr => ∃ (i at_ : Nat), i ≤ n ∧ at_ ≤ S.size ∧ iv = .int .i64 i ∧ av = .int .i64 at_ ∧ Hid (LAt (bsL S) i at_) ∧ Hid (Below wr0.heap.size wr0 wr)) (fun _ iv _ => n - (intOf iv).toNat)
        case atStart => exact ⟨0, 0, by omega, by omega, rfl, rfl, HX4, Lib.hid (Below.refl _ _)⟩
        case round =>
          obtain ⟨i, at_, hi, hat, rfl, rfl, HA, HW⟩ := hrel
          by_cases hlt : i < n
          · obtain ⟨g, o, x, rfl, hg, hx, q0, q1, q2⟩ := (HQ0.out.1.below HW.out).row hlt
            obtain ⟨gp, m, k1, k2, k3, k4, k5, ⟨lx, k6⟩, k7⟩ := HA.out.step (by rw [← HTS.out]; exact hx)
            rw [HL.out] at k1
            obtain ⟨tw, hto⟩ : ∃ tw, tw = gp + m := ⟨_, rfl⟩
            have hSx : (S.extract at_ S.size).size = S.size - at_ := ext_size S at_ hat
            have HNx := next_any wr (S.extract at_ S.size) (by rw [hSx]; omega)
            rw [bs_drop, k6] at HNx
            dsimp only at HNx
            rw [hSx, List.length_drop, HL.out, show (((S.size - at_ : Nat) : Int) - ((S.size - (at_ + gp + m) : Nat) : Int)) = (tw : Int) by omega] at HNx
            have HC := Lib.hid HNx
            have hto2 : at_ + tw ≤ S.size := by omega
            have hmt : m ≤ tw := by omega
            have HTxt : Hid (S.extract (at_ + tw - m) (at_ + tw) = baL x.text) := Lib.hid (ba_ext.2 (by
              rw [bs_extract, bs_ba, k3, hto, show at_ + (gp + m) - m = at_ + gp by omega, List.drop_take, show at_ + (gp + m) - (at_ + gp) = m by omega]))
            have hxs : (baL x.text).size = m := by rw [ba_size]; exact k4
            have HLine : Hid (x.line = 1 + nlsL ((bsL S).take (at_ + tw))) := Lib.hid (by rw [k5, hto, Nat.add_assoc])
            have HStep : Hid (LAt (bsL S) (i + 1) (at_ + tw)) := Lib.hid (by rw [hto, ← Nat.add_assoc]; exact k7)
            have c0 : (0 : Int) ≤ (at_ : Int) := by omega
            have c1 : (at_ : Int) ≤ (S.size : Int) := by omega
            have HZx := Lib.hid (And.intro hx hto)
            clear k1 k3 k4 k5 k6 k7 hx hto HNx hg hSx
            go_wp2_with fail
            refine HC.out.mono ?_
            rintro e w3 ⟨rfl, hb3⟩
            obtain ⟨X2, hX2⟩ : ∃ X2 : Tk, X2 = ⟨x.kind, x.text, lx⟩ := ⟨_, rfl⟩
            rw [← hX2]
            have HX2 := Lib.hid hX2
            clear hX2
            have HZ3 := Lib.hid (Blk.new w3 37 (tkC tkZ))
            have p0 := pcell_below q0 hb3
            have p1 := pcell_below q1 hb3
            have p2 := pcell_below q2 hb3
            have HPP := Lib.hid (And.intro p0 (And.intro p1 p2))
            have HB3 := Lib.hid (HW.out.trans (hb3.mono HW.out.size))
            clear hb3 q0 q1 q2 p0 p1 p2
            go_wp2_with (refine wpList_store_blk rfl 37 (.tmp 10) (.tmp 64) rfl w3.heap.size 0 (tkC X2) rfl rfl HZ3.out (by simp [tkC]) (tk_size.trans (by simp [tkC])) (tkC_one _) ?_; intro wx hA hO; rw [over_whole (by simp [tkC])] at hA; have hO2 := only_own (Only.of_below (S := []) (pnew w3 _)) hO; have y0 : wx.cell? ⟨w3.heap.size, 0, none⟩ = some (.int .i64 (x.kind : Int)) := (by have h9 := (tk_cells hA).1; rw [HX2.out] at h9; exact h9); have y1 : wx.cell? ⟨w3.heap.size, 1, none⟩ = some (.string (baL x.text)) := (by have h9 := (tk_cells hA).2.1; rw [HX2.out] at h9; exact h9); have p0 := only_cell hO2 HPP.out.1 (by simp); have p1 := only_cell hO2 HPP.out.2.1 (by simp); have p2 := only_cell hO2 HPP.out.2.2 (by simp); have H4 := Lib.hid (HB3.out.trans (hO2.below HB3.out.size (by simp))); clear hA hO hO2)
            refine wp_hideQ ?_
            intro QQ hQQ
            refine wp_region_quick [some 67, some 68, some 69, some 70, some 71, some 72, some 73, some 74, some 75, some 76, some 77, some 78, some 79, some 80, some 81, some 82, some 83, some 84, some 85, some 86, some 87, some 88, some 89, some 90, some 91, some 92, some 93, some 94, some 95, some 96, some 97, some 98, some 99, some 100, some 101, some 102, some 103, some 104, some 105, some 106, some 107, some 108, some 109, some 110, some 111, some 112] [isV (.int .i64 (0 : Int)), isV (.bool false), isV (.bool false), isV (.pointer (some ⟨w3.heap.size, 1, none⟩)), isV (.string (baL x.text)), isV (.slice (some ⟨g, o, none⟩) n c), isV (.int .i64 (i : Int)), isV (.pointer (some ⟨g, o + i * 3, none⟩)), isV (.pointer (some ⟨g, o + i * 3 + 1, none⟩)), isV (.string (baL x.text)), isV (.bool false), isV (.bool false), isV (.bool false), isV (.pointer (some ⟨w3.heap.size, 0, none⟩)), isV (.int .i64 (x.kind : Int)), isV (.slice (some ⟨g, o, none⟩) n c), isV (.int .i64 (i : Int)), isV (.pointer (some ⟨g, o + i * 3, none⟩)), isV (.pointer (some ⟨g, o + i * 3, none⟩)), isV (.int .i64 (x.kind : Int)), isV (.bool false), isV (.bool false), isV (.bool false), isV (.int .i64 (tw : Int)), isV (.pointer (some ⟨w3.heap.size, 1, none⟩)), isV (.string (baL x.text)), isV (.int .i64 (m : Int)), isV (.bool false), isV (.bool false), isV (.bool false), isV (.string S), isV (.int .i64 (at_ : Int)), isV (.int .i64 (tw : Int)), isV (.int .i64 ((at_ + tw : Nat) : Int)), isV (.pointer (some ⟨w3.heap.size, 1, none⟩)), isV (.string (baL x.text)), isV (.int .i64 (m : Int)), isV (.int .i64 ((at_ + tw - m : Nat) : Int)), isV (.int .i64 (at_ : Int)), isV (.int .i64 (tw : Int)), isV (.int .i64 ((at_ + tw : Nat) : Int)), isV (.string (baL x.text)), isV (.pointer (some ⟨w3.heap.size, 1, none⟩)), isV (.string (baL x.text)), isV (.bool false), isV (.bool false)] 46 (by kernel_rfl) rfl rfl rfl (by kernel_rfl) (by simp [isV.st]) ?_ ?_
            · intro hq rz hz
              match rz, hz with
              | 0, _ =>
                refine StepL.val rfl [] (by decide +kernel) ?_
                intro v wx hR hd
                exact ⟨wanted_plain rfl _, _, _, x_move rfl (fill_off rfl rfl), hR, Below.refl _ _, rfl⟩
              | 1, _ =>
                refine StepL.val rfl [0] (by decide +kernel) ?_
                intro v wx hR hd
                have h0 : v 0 = _ := hd 0 (by simp)
                exact ⟨wanted_plain rfl _, _, _, x_bin rfl (hq.at_ rfl h0) rfl (r_neq (by decide)), hR, Below.refl _ _, rfl⟩
              | 2, _ =>
                refine StepL.val rfl [1] (by decide +kernel) ?_
                intro v wx hR hd
                have h1 : v 1 = _ := hd 1 (by simp)
                exact ⟨wanted_plain rfl _, _, _, x_move rfl (hq.at_ rfl h1), hR, Below.refl _ _, rfl⟩
              | 3, _ =>
                refine StepL.val rfl [2] (by decide +kernel) ?_
                intro v wx hR hd
                have h2 : v 2 = _ := hd 2 (by simp)
                exact ⟨hq.yes rfl rfl rfl h2, _, _, x_field rfl (fill_off rfl rfl) (r_field (off := 1) (by kernel_rfl)), hR, Below.refl _ _, rfl⟩
              | 4, _ =>
                refine StepL.val rfl [2, 3] (by decide +kernel) ?_
                intro v wx hR hd
                have h2 : v 2 = _ := hd 2 (by simp)
                have h3 : v 3 = _ := hd 3 (by simp)
                exact ⟨hq.yes rfl rfl rfl h2, _, _, x_load rfl (hq.at_ rfl h3) (r_load (by kernel_rfl) (pcell_below y1 hR)), hR, Below.refl _ _, rfl⟩
              | 5, _ =>
                refine StepL.val rfl [2] (by decide +kernel) ?_
                intro v wx hR hd
                have h2 : v 2 = _ := hd 2 (by simp)
                exact ⟨hq.yes rfl rfl rfl h2, _, _, x_move rfl (fill_off rfl rfl), hR, Below.refl _ _, rfl⟩
              | 6, _ =>
                refine StepL.val rfl [2] (by decide +kernel) ?_
                intro v wx hR hd
                have h2 : v 2 = _ := hd 2 (by simp)
                exact ⟨hq.yes rfl rfl rfl h2, _, _, x_move rfl (fill_off rfl rfl), hR, Below.refl _ _, rfl⟩
              | 7, _ =>
                refine StepL.val rfl [2, 5, 6] (by decide +kernel) ?_
                intro v wx hR hd
                have h2 : v 2 = _ := hd 2 (by simp)
                have h5 : v 5 = _ := hd 5 (by simp)
                have h6 : v 6 = _ := hd 6 (by simp)
                exact ⟨hq.yes rfl rfl rfl h2, _, _, x_index rfl (hq.at_ rfl h5) (hq.at_ rfl h6) (r_index (e := 37) (size := 3) (by kernel_rfl) (by kernel_rfl) (by omega) (by omega) (by first | omega | simp)), hR, Below.refl _ _, rfl⟩
              | 8, _ =>
                refine StepL.val rfl [2, 7] (by decide +kernel) ?_
                intro v wx hR hd
                have h2 : v 2 = _ := hd 2 (by simp)
                have h7 : v 7 = _ := hd 7 (by simp)
                exact ⟨hq.yes rfl rfl rfl h2, _, _, x_field rfl (hq.at_ rfl h7) (r_field (off := 1) (by kernel_rfl)), hR, Below.refl _ _, rfl⟩
              | 9, _ =>
                refine StepL.val rfl [2, 8] (by decide +kernel) ?_
                intro v wx hR hd
                have h2 : v 2 = _ := hd 2 (by simp)
                have h8 : v 8 = _ := hd 8 (by simp)
                exact ⟨hq.yes rfl rfl rfl h2, _, _, x_load rfl (hq.at_ rfl h8) (r_load (by kernel_rfl) (pcell_below p1 hR)), hR, Below.refl _ _, rfl⟩
              | 10, _ =>
                refine StepL.val rfl [2, 4, 9] (by decide +kernel) ?_
                intro v wx hR hd
                have h2 : v 2 = _ := hd 2 (by simp)
                have h4 : v 4 = _ := hd 4 (by simp)
                have h9 : v 9 = _ := hd 9 (by simp)
                exact ⟨hq.yes rfl rfl rfl h2, _, _, x_bin rfl (hq.at_ rfl h4) (hq.at_ rfl h9) (r_neqs rfl), hR, Below.refl _ _, rfl⟩
              | 11, _ =>
                refine StepL.val rfl [2, 10] (by decide +kernel) ?_
                intro v wx hR hd
                have h2 : v 2 = _ := hd 2 (by simp)
                have h10 : v 10 = _ := hd 10 (by simp)
                exact ⟨wanted_plain rfl _, _, _, x_pick_no rfl (hq.at_ rfl h2) (hq.at_ rfl h10), hR, Below.refl _ _, rfl⟩
              | 12, _ =>
                refine StepL.val rfl [11] (by decide +kernel) ?_
                intro v wx hR hd
                have h11 : v 11 = _ := hd 11 (by simp)
                exact ⟨wanted_plain rfl _, _, _, x_move rfl (hq.at_ rfl h11), hR, Below.refl _ _, rfl⟩
              | 13, _ =>
                refine StepL.val rfl [12] (by decide +kernel) ?_
                intro v wx hR hd
                have h12 : v 12 = _ := hd 12 (by simp)
                exact ⟨hq.yes rfl rfl rfl h12, _, _, x_field rfl (fill_off rfl rfl) (r_field (off := 0) (by kernel_rfl)), hR, Below.refl _ _, rfl⟩
              | 14, _ =>
                refine StepL.val rfl [12, 13] (by decide +kernel) ?_
                intro v wx hR hd
                have h12 : v 12 = _ := hd 12 (by simp)
                have h13 : v 13 = _ := hd 13 (by simp)
                exact ⟨hq.yes rfl rfl rfl h12, _, _, x_load rfl (hq.at_ rfl h13) (r_load (by kernel_rfl) (pcell_below y0 hR)), hR, Below.refl _ _, rfl⟩
              | 15, _ =>
                refine StepL.val rfl [12] (by decide +kernel) ?_
                intro v wx hR hd
                have h12 : v 12 = _ := hd 12 (by simp)
                exact ⟨hq.yes rfl rfl rfl h12, _, _, x_move rfl (fill_off rfl rfl), hR, Below.refl _ _, rfl⟩
              | 16, _ =>
                refine StepL.val rfl [12] (by decide +kernel) ?_
                intro v wx hR hd
                have h12 : v 12 = _ := hd 12 (by simp)
                exact ⟨hq.yes rfl rfl rfl h12, _, _, x_move rfl (fill_off rfl rfl), hR, Below.refl _ _, rfl⟩
              | 17, _ =>
                refine StepL.val rfl [12, 15, 16] (by decide +kernel) ?_
                intro v wx hR hd
                have h12 : v 12 = _ := hd 12 (by simp)
                have h15 : v 15 = _ := hd 15 (by simp)
                have h16 : v 16 = _ := hd 16 (by simp)
                exact ⟨hq.yes rfl rfl rfl h12, _, _, x_index rfl (hq.at_ rfl h15) (hq.at_ rfl h16) (r_index (e := 37) (size := 3) (by kernel_rfl) (by kernel_rfl) (by omega) (by omega) (by first | omega | simp)), hR, Below.refl _ _, rfl⟩
              | 18, _ =>
                refine StepL.val rfl [12, 17] (by decide +kernel) ?_
                intro v wx hR hd
                have h12 : v 12 = _ := hd 12 (by simp)
                have h17 : v 17 = _ := hd 17 (by simp)
                exact ⟨hq.yes rfl rfl rfl h12, _, _, x_field rfl (hq.at_ rfl h17) (r_field (off := 0) (by kernel_rfl)), hR, Below.refl _ _, rfl⟩
              | 19, _ =>
                refine StepL.val rfl [12, 18] (by decide +kernel) ?_
                intro v wx hR hd
                have h12 : v 12 = _ := hd 12 (by simp)
                have h18 : v 18 = _ := hd 18 (by simp)
                exact ⟨hq.yes rfl rfl rfl h12, _, _, x_load rfl (hq.at_ rfl h18) (r_load (by kernel_rfl) (pcell_below p0 hR)), hR, Below.refl _ _, rfl⟩
              | 20, _ =>
                refine StepL.val rfl [12, 14, 19] (by decide +kernel) ?_
                intro v wx hR hd
                have h12 : v 12 = _ := hd 12 (by simp)
                have h14 : v 14 = _ := hd 14 (by simp)
                have h19 : v 19 = _ := hd 19 (by simp)
                exact ⟨hq.yes rfl rfl rfl h12, _, _, x_bin rfl (hq.at_ rfl h14) (hq.at_ rfl h19) (r_neq (by simp)), hR, Below.refl _ _, rfl⟩
              | 21, _ =>
                refine StepL.val rfl [12, 20] (by decide +kernel) ?_
                intro v wx hR hd
                have h12 : v 12 = _ := hd 12 (by simp)
                have h20 : v 20 = _ := hd 20 (by simp)
                exact ⟨wanted_plain rfl _, _, _, x_pick_no rfl (hq.at_ rfl h12) (hq.at_ rfl h20), hR, Below.refl _ _, rfl⟩
              | 22, _ =>
                refine StepL.val rfl [21] (by decide +kernel) ?_
                intro v wx hR hd
                have h21 : v 21 = _ := hd 21 (by simp)
                exact ⟨wanted_plain rfl _, _, _, x_move rfl (hq.at_ rfl h21), hR, Below.refl _ _, rfl⟩
              | 23, _ =>
                refine StepL.val rfl [22] (by decide +kernel) ?_
                intro v wx hR hd
                have h22 : v 22 = _ := hd 22 (by simp)
                exact ⟨hq.yes rfl rfl rfl h22, _, _, x_move rfl (fill_off rfl rfl), hR, Below.refl _ _, rfl⟩
              | 24, _ =>
                refine StepL.val rfl [22] (by decide +kernel) ?_
                intro v wx hR hd
                have h22 : v 22 = _ := hd 22 (by simp)
                exact ⟨hq.yes rfl rfl rfl h22, _, _, x_field rfl (fill_off rfl rfl) (r_field (off := 1) (by kernel_rfl)), hR, Below.refl _ _, rfl⟩
              | 25, _ =>
                refine StepL.val rfl [22, 24] (by decide +kernel) ?_
                intro v wx hR hd
                have h22 : v 22 = _ := hd 22 (by simp)
                have h24 : v 24 = _ := hd 24 (by simp)
                exact ⟨hq.yes rfl rfl rfl h22, _, _, x_load rfl (hq.at_ rfl h24) (r_load (by kernel_rfl) (pcell_below y1 hR)), hR, Below.refl _ _, rfl⟩
              | 26, _ =>
                refine StepL.val rfl [22, 25] (by decide +kernel) ?_
                intro v wx hR hd
                have h22 : v 22 = _ := hd 22 (by simp)
                have h25 : v 25 = _ := hd 25 (by simp)
                exact ⟨hq.yes rfl rfl rfl h22, _, _, (hxs ▸ x_lens rfl rfl rfl rfl Try.underlying9 (hq.at_ rfl h25)), hR, Below.refl _ _, rfl⟩
              | 27, _ =>
                refine StepL.val rfl [22, 23, 26] (by decide +kernel) ?_
                intro v wx hR hd
                have h22 : v 22 = _ := hd 22 (by simp)
                have h23 : v 23 = _ := hd 23 (by simp)
                have h26 : v 26 = _ := hd 26 (by simp)
                exact ⟨hq.yes rfl rfl rfl h22, _, _, x_bin rfl (hq.at_ rfl h23) (hq.at_ rfl h26) (r_lss (decide_eq_false (by omega))), hR, Below.refl _ _, rfl⟩
              | 28, _ =>
                refine StepL.val rfl [22, 27] (by decide +kernel) ?_
                intro v wx hR hd
                have h22 : v 22 = _ := hd 22 (by simp)
                have h27 : v 27 = _ := hd 27 (by simp)
                exact ⟨wanted_plain rfl _, _, _, x_pick_no rfl (hq.at_ rfl h22) (hq.at_ rfl h27), hR, Below.refl _ _, rfl⟩
              | 29, _ =>
                refine StepL.val rfl [28] (by decide +kernel) ?_
                intro v wx hR hd
                have h28 : v 28 = _ := hd 28 (by simp)
                exact ⟨wanted_plain rfl _, _, _, x_move rfl (hq.at_ rfl h28), hR, Below.refl _ _, rfl⟩
              | 30, _ =>
                refine StepL.val rfl [29] (by decide +kernel) ?_
                intro v wx hR hd
                have h29 : v 29 = _ := hd 29 (by simp)
                exact ⟨hq.yes rfl rfl rfl h29, _, _, x_move rfl (fill_off rfl rfl), hR, Below.refl _ _, rfl⟩
              | 31, _ =>
                refine StepL.val rfl [29] (by decide +kernel) ?_
                intro v wx hR hd
                have h29 : v 29 = _ := hd 29 (by simp)
                exact ⟨hq.yes rfl rfl rfl h29, _, _, x_move rfl (fill_off rfl rfl), hR, Below.refl _ _, rfl⟩
              | 32, _ =>
                refine StepL.val rfl [29] (by decide +kernel) ?_
                intro v wx hR hd
                have h29 : v 29 = _ := hd 29 (by simp)
                exact ⟨hq.yes rfl rfl rfl h29, _, _, x_move rfl (fill_off rfl rfl), hR, Below.refl _ _, rfl⟩
              | 33, _ =>
                refine StepL.val rfl [29, 31, 32] (by decide +kernel) ?_
                intro v wx hR hd
                have h29 : v 29 = _ := hd 29 (by simp)
                have h31 : v 31 = _ := hd 31 (by simp)
                have h32 : v 32 = _ := hd 32 (by simp)
                exact ⟨hq.yes rfl rfl rfl h29, _, _, x_bin rfl (hq.at_ rfl h31) (hq.at_ rfl h32) (r_add (by omega) (by omega) (by omega)), hR, Below.refl _ _, rfl⟩
              | 34, _ =>
                refine StepL.val rfl [29] (by decide +kernel) ?_
                intro v wx hR hd
                have h29 : v 29 = _ := hd 29 (by simp)
                exact ⟨hq.yes rfl rfl rfl h29, _, _, x_field rfl (fill_off rfl rfl) (r_field (off := 1) (by kernel_rfl)), hR, Below.refl _ _, rfl⟩
              | 35, _ =>
                refine StepL.val rfl [29, 34] (by decide +kernel) ?_
                intro v wx hR hd
                have h29 : v 29 = _ := hd 29 (by simp)
                have h34 : v 34 = _ := hd 34 (by simp)
                exact ⟨hq.yes rfl rfl rfl h29, _, _, x_load rfl (hq.at_ rfl h34) (r_load (by kernel_rfl) (pcell_below y1 hR)), hR, Below.refl _ _, rfl⟩
              | 36, _ =>
                refine StepL.val rfl [29, 35] (by decide +kernel) ?_
                intro v wx hR hd
                have h29 : v 29 = _ := hd 29 (by simp)
                have h35 : v 35 = _ := hd 35 (by simp)
                exact ⟨hq.yes rfl rfl rfl h29, _, _, (hxs ▸ x_lens rfl rfl rfl rfl Try.underlying9 (hq.at_ rfl h35)), hR, Below.refl _ _, rfl⟩
              | 37, _ =>
                refine StepL.val rfl [29, 33, 36] (by decide +kernel) ?_
                intro v wx hR hd
                have h29 : v 29 = _ := hd 29 (by simp)
                have h33 : v 33 = _ := hd 33 (by simp)
                have h36 : v 36 = _ := hd 36 (by simp)
                exact ⟨hq.yes rfl rfl rfl h29, _, _, x_bin rfl (hq.at_ rfl h33) (hq.at_ rfl h36) (r_sub (by omega) (by omega) (by omega)), hR, Below.refl _ _, rfl⟩
              | 38, _ =>
                refine StepL.val rfl [29] (by decide +kernel) ?_
                intro v wx hR hd
                have h29 : v 29 = _ := hd 29 (by simp)
                exact ⟨hq.yes rfl rfl rfl h29, _, _, x_move rfl (fill_off rfl rfl), hR, Below.refl _ _, rfl⟩
              | 39, _ =>
                refine StepL.val rfl [29] (by decide +kernel) ?_
                intro v wx hR hd
                have h29 : v 29 = _ := hd 29 (by simp)
                exact ⟨hq.yes rfl rfl rfl h29, _, _, x_move rfl (fill_off rfl rfl), hR, Below.refl _ _, rfl⟩
              | 40, _ =>
                refine StepL.val rfl [29, 38, 39] (by decide +kernel) ?_
                intro v wx hR hd
                have h29 : v 29 = _ := hd 29 (by simp)
                have h38 : v 38 = _ := hd 38 (by simp)
                have h39 : v 39 = _ := hd 39 (by simp)
                exact ⟨hq.yes rfl rfl rfl h29, _, _, x_bin rfl (hq.at_ rfl h38) (hq.at_ rfl h39) (r_add (by omega) (by omega) (by omega)), hR, Below.refl _ _, rfl⟩
              | 41, _ =>
                refine StepL.val rfl [29, 30, 37, 40] (by decide +kernel) ?_
                intro v wx hR hd
                have h29 : v 29 = _ := hd 29 (by simp)
                have h30 : v 30 = _ := hd 30 (by simp)
                have h37 : v 37 = _ := hd 37 (by simp)
                have h40 : v 40 = _ := hd 40 (by simp)
                exact ⟨hq.yes rfl rfl rfl h29, _, _, x_subs rfl Try.underlying9 (hq.at_ rfl h30) (hq.at_ rfl h37) (hq.at_ rfl h40) (by omega) hto2 HTxt.out, hR, Below.refl _ _, rfl⟩
              | 42, _ =>
                refine StepL.val rfl [29] (by decide +kernel) ?_
                intro v wx hR hd
                have h29 : v 29 = _ := hd 29 (by simp)
                exact ⟨hq.yes rfl rfl rfl h29, _, _, x_field rfl (fill_off rfl rfl) (r_field (off := 1) (by kernel_rfl)), hR, Below.refl _ _, rfl⟩
              | 43, _ =>
                refine StepL.val rfl [29, 42] (by decide +kernel) ?_
                intro v wx hR hd
                have h29 : v 29 = _ := hd 29 (by simp)
                have h42 : v 42 = _ := hd 42 (by simp)
                exact ⟨hq.yes rfl rfl rfl h29, _, _, x_load rfl (hq.at_ rfl h42) (r_load (by kernel_rfl) (pcell_below y1 hR)), hR, Below.refl _ _, rfl⟩
              | 44, _ =>
                refine StepL.val rfl [29, 41, 43] (by decide +kernel) ?_
                intro v wx hR hd
                have h29 : v 29 = _ := hd 29 (by simp)
                have h41 : v 41 = _ := hd 41 (by simp)
                have h43 : v 43 = _ := hd 43 (by simp)
                exact ⟨hq.yes rfl rfl rfl h29, _, _, x_bin rfl (hq.at_ rfl h41) (hq.at_ rfl h43) (r_neqs rfl), hR, Below.refl _ _, rfl⟩
              | 45, _ =>
                refine StepL.val rfl [29, 44] (by decide +kernel) ?_
                intro v wx hR hd
                have h29 : v 29 = _ := hd 29 (by simp)
                have h44 : v 44 = _ := hd 44 (by simp)
                exact ⟨wanted_plain rfl _, _, _, x_pick_no rfl (hq.at_ rfl h29) (hq.at_ rfl h44), hR, Below.refl _ _, rfl⟩
              | rz + 46, h => omega
            · intro v wz hR hV
              have h45 : v 45 = _ := hV 45 (by omega)
              simp only [fillR, Act.put, List.setIfInBounds_toArray, List.set_cons_zero, List.set_cons_succ, h45]
              have p2x := pcell_below p2 hR
              have HY := Lib.hid (And.intro p2x (H4.out.trans (hR.mono H4.out.size)))
              clear hR hV h45 y0 y1 p0 p1 p2 p2x
              go_wp2_with fail
              generalize wz = w5 at *
              go_loopw [13, 14] (fun lv kv wy => ∃ (k2 ln2 : Nat), k2 ≤ at_ + tw ∧ kv = .int .i64 k2 ∧ lv = .int .i64 ln2 ∧ ln2 ≤ k2 + 1 ∧ Hid (ln2 = 1 + nlsL ((bsL S).take k2)) ∧ Hid (Below w5.heap.size w5 wy)) (fun _ kv _ => at_ + tw - (intOf kv).toNat)
              case atStart => exact ⟨0, 1, by omega, rfl, rfl, by omega, Lib.hid rfl, Lib.hid (Below.refl _ _)⟩
              case round =>
                obtain ⟨k2, ln2, hk2, rfl, rfl, hln2, HK3, HW5⟩ := hrel
                by_cases hlt2 : k2 < at_ + tw
                · obtain ⟨ch, hc⟩ : ∃ c, (bsL S)[k2]? = some c := ⟨_, List.getElem?_eq_getElem (by rw [HL.out]; omega)⟩
                  have hx := fun W => bs_index S k2 ch hc W
                  have hnx := nls_next hc
                  have e0 : (0 : Int) ≤ (k2 : Int) := by omega
                  have e1 : (k2 : Int) < (S.size : Int) := by omega
                  have e2 : (k2 : Int) < (at_ : Int) + (tw : Int) := by omega
                  by_cases h10 : (ch.toNat : Int) = 10
                  · obtain ⟨f1, f2, f3, f4⟩ := eq_facts ch.toNat 10 h10
                    have HF : Hid (ln2 + 1 = 1 + nlsL ((bsL S).take (k2 + 1))) := Lib.hid (by rw [hnx, if_pos (by omega), HK3.out]; omega)
                    clear h10 hnx hc
                    go_wp2_with fail
                    exact ⟨⟨k2 + 1, ln2 + 1, hlt2, by rw [Int.natCast_succ], by rw [Int.natCast_succ], by omega, HF, HW5⟩, by simp [intOf]; omega⟩
                  · obtain ⟨f1, f2, f3, f4⟩ := ne_facts ch.toNat 10 h10
                    have HF : Hid (ln2 = 1 + nlsL ((bsL S).take (k2 + 1))) := Lib.hid (by rw [hnx, if_neg (by omega), HK3.out]; omega)
                    clear h10 hnx hc
                    go_wp2_with fail
                    exact ⟨⟨k2 + 1, ln2, hlt2, by rw [Int.natCast_succ], rfl, by omega, HF, HW5⟩, by simp [intOf]; omega⟩
                · obtain rfl : k2 = at_ + tw := by omega
                  have e2 : ¬ (((at_ + tw : Nat)) : Int) < (at_ : Int) + (tw : Int) := by omega
                  have hle : x.line = ln2 := by rw [HLine.out, HK3.out]
                  have r2 := pcell_below HY.out.1 HW5.out
                  rw [hle] at r2
                  have f0 : (i : Int) < (n : Int) := by omega
                  have f1 : (0 : Int) ≤ (i : Int) := by omega
                  clear hle
                  go_wp2_with fail
                  exact ⟨⟨i + 1, at_ + tw, by omega, hto2, by rw [Int.natCast_succ], by go_num, HStep, Lib.hid (HY.out.2.trans (HW5.out.mono HY.out.2.size))⟩, by simp [intOf]; omega⟩
          · obtain rfl : i = n := by omega
            have HD : Hid ((tokN 1 ((bsL S).drop at_)).err = 4) := Lib.hid (LAt.done (by rw [← HTS.out, ← HN.out]; exact HA.out))
            have hSx : (S.extract at_ S.size).size = S.size - at_ := ext_size S at_ hat
            have HNx := next_any wr (S.extract at_ S.size) (by rw [hSx]; omega)
            rw [bs_drop] at HNx
            obtain ⟨R, hR⟩ : ∃ R, R = tokN 1 ((bsL S).drop at_) := ⟨_, rfl⟩
            rw [← hR] at HNx HD
            rw [HD.out] at HNx
            have HC := Lib.hid HNx
            have c0 : (0 : Int) ≤ (at_ : Int) := by omega
            have c1 : (at_ : Int) ≤ (S.size : Int) := by omega
            clear HNx hR hSx
            go_wp2_with fail
            refine HC.out.mono ?_
            rintro e w3 ⟨rfl, hb3⟩
            have HZ3 := Lib.hid (Blk.new w3 37 (tkC tkZ))
            have HB3 := Lib.hid (HW.out.trans (hb3.mono HW.out.size))
            clear hb3
            go_wp2_with (refine wpList_store_blk rfl 37 (.tmp 15) (.tmp 141) rfl w3.heap.size 0 (tkC R.tk) rfl rfl HZ3.out (by simp [tkC]) (tk_size.trans (by simp [tkC])) (tkC_one _) ?_; intro wx hA hO; have hO2 := only_own (Only.of_below (S := []) (pnew w3 _)) hO; have H4 := Lib.hid (HB3.out.trans (hO2.below HB3.out.size (by simp))); clear hA hO hO2)
            refine (lknown_walk wx).mono ?_
            rintro e w4 ⟨rfl, hb4⟩
            have H5 := Lib.hid ((HQ0.out.2.trans (H4.out.mono HQ0.out.2.size)).trans (hb4.mono (Nat.le_trans HQ0.out.2.size H4.out.size)))
            clear hb4
            go_wp2_with fail
            go_ret
            exact ⟨rfl, H5.out⟩
      · have hB := lines_bad (l := bsL S) (by rw [HL.out]; omega) (by rw [← H1.out.2.2.1]; exact hE0)
        rw [← (H1.out.2.2.2.2 hE0).2, ← HK2.out] at hB
        obtain ⟨hB1, hB2⟩ := hB
        obtain ⟨f1, f2, f3, f4⟩ := ne_facts E 0 (by omega)
        have d1 : ((1 : Int) ≤ (L : Int)) = True := eq_true (by omega)
        have d2 : decide ((1 : Int) ≤ (L : Int)) = true := decide_eq_true (by omega)
        have d3 : ((L : Int) ≤ (ln : Int)) = True := eq_true (by omega)
        have d4 : decide ((L : Int) ≤ (ln : Int)) = true := decide_eq_true (by omega)
        clear hE0
        go_wp2_with fail
        refine (lknown_walk wr0).mono ?_
        rintro e w4 ⟨rfl, hb4⟩
        have H4 := Lib.hid (HQ0.out.2.trans (hb4.mono HQ0.out.2.size))
        clear hb4
        go_wp2_with fail
        go_ret
        exact ⟨rfl, H4.out⟩
end Go.Proofs.Ytammomjnigalbaa
