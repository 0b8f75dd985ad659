/-
  The law LexerTexts: true of any text and any number. Condition: a size that any text has.
-/
import Derived.Test.YtammomjnigalbaaLTextsP
set_option linter.unusedSimpArgs false
set_option linter.unusedVariables false
set_option maxRecDepth 100000
namespace Go.Proofs.Ytammomjnigalbaa
open Go.RowKit

theorem gap_index (gap : Int) : ∃ G, GapB G ∧ ∀ W, (Instr.index 34 (.agg #[.string ⟨#[32]⟩, .string ⟨#[10]⟩, .string ⟨#[32, 35, 32, 97, 108, 108, 111, 119, 32, 100, 101, 110, 121, 32, 59, 10]⟩, .string ⟨#[9, 32, 10, 10]⟩]) (.int .u64 ((IntKind.u64.wrap gap).tmod 4))).run Try.prog W = .ok (.string (baL G)) W := by
  have h0 : 0 ≤ IntKind.u64.wrap gap := by rw [IntKind.wrap_u64]; omega
  obtain ⟨r, hr⟩ : ∃ r, r = (IntKind.u64.wrap gap).tmod 4 := ⟨_, rfl⟩
  have h1 : 0 ≤ r ∧ r < 4 := by
    rw [hr, Int.tmod_eq_emod_of_nonneg h0]
    omega
  rw [← hr]
  clear hr h0
  obtain ⟨ha, hb⟩ := h1
  rcases (by omega : r = 0 ∨ r = 1 ∨ r = 2 ∨ r = 3) with rfl | rfl | rfl | rfl
  · exact ⟨gp0, gapB0, fun W => by kernel_rfl⟩
  · exact ⟨gp1, gapB1, fun W => by kernel_rfl⟩
  · exact ⟨gp2, gapB2, fun W => by kernel_rfl⟩
  · exact ⟨gp3, gapB3, fun W => by kernel_rfl⟩
set_option maxHeartbeats 16000000 in
theorem ltexts_walk (w : World) (s0 : ByteArray) (gap : Int) (h0 : s0.size ≤ 9223372036854775807) :
    Calls Try.prog 3 #[.string s0, .int .i64 gap] w fun e w' => e = .returned (.bool true) ∧ Below w.heap.size w w' := by
  have b0 : (0 : Int) ≤ min (s0.size : Int) 2000 := by omega
  have b1 : min (s0.size : Int) 2000 ≤ (s0.size : Int) := by omega
  obtain ⟨S, hS⟩ : ∃ S, S = cutL s0 := ⟨_, rfl⟩
  have hs := cutL_size s0
  rw [← hS] at hs
  have HS := Lib.hid hS
  have HL := Lib.hid (bs_len S)
  clear hS
  obtain ⟨G, hG, hGI⟩ := gap_index gap
  have hGs := hG.small
  have HG := Lib.hid hG
  have HGI := Lib.hid hGI
  clear hG hGI
  go_enter Try.func3, Try.ntmps3
  go_wp2_with fail
  rw [show s0.extract 0 (min (s0.size : Int) 2000).toNat = S from HS.out.symm]
  refine (toks_is w S (by omega)).mono ?_
  rintro e w1 ⟨A, c, ts, L, E, rfl, hb1, hT, hE, hg1, hb1'⟩
  have hbig := hT.big
  have hcap := hT.cap
  by_cases hE0 : E = 0
  · subst hE0
    obtain ⟨rfl, rfl⟩ := hg1 rfl
    obtain ⟨X, hX⟩ : ∃ X, X = lexL 1 (bsL S) := ⟨_, rfl⟩
    have HB := Lib.hid (And.intro (text_back (l := bsL S) (by rw [HL.out]; exact hs) hE.symm) (fun g (hg : GapB g) => wide_back hg hE.symm (by rw [HL.out]; exact hs)))
    have hn1 : X.ts.length ≤ 800 := by
      rw [(toks_small (by rw [bs_len]; omega)).1, ← hX] at hE
      exact toks_few hE.symm
    have HSm : Hid (∀ x ∈ X.ts, x.text.length ≤ 60) := Lib.hid (by rw [hX]; exact tok_small)
    rw [← hX] at HB hT hcap ⊢
    obtain ⟨ts, hts⟩ : ∃ ts, ts = X.ts := ⟨_, rfl⟩
    rw [← hts] at HB hT hcap hn1 HSm ⊢
    obtain ⟨n, hn⟩ : ∃ n, n = ts.length := ⟨_, rfl⟩
    rw [← hn] at hT hcap hn1 ⊢
    have H1 := Lib.hid (And.intro hT hb1)
    have HN := Lib.hid hn
    have htsm : ∀ ts2 : List Tk, ts2.map ktL = ts.map ktL → (∀ x ∈ ts2, x.text.length ≤ 60) ∧ ts2.length = n := fun ts2 h => ⟨fun x hx => by
      have h1 : ktL x ∈ ts.map ktL := by rw [← h]; exact List.mem_map_of_mem hx
      obtain ⟨y, hy, he⟩ := List.mem_map.1 h1
      have : x.text = y.text := (congrArg Prod.snd he).symm
      rw [this]
      exact HSm.out y hy, by rw [HN.out]; exact kt_count h⟩
    have HTSM := Lib.hid htsm
    clear hT hb1 hE hg1 hb1' hX hts hn htsm
    go_wp2_with fail
    refine (text_any w1 A n c ts H1.out.1 hn1 HSm.out).mono ?_
    rintro e w2 ⟨rfl, hb2⟩
    obtain ⟨TB, hTB⟩ : ∃ TB, TB = textL false (ts.map (·.text)) := ⟨_, rfl⟩
    rw [← hTB] at HB ⊢
    have HTB := Lib.hid hTB
    have H2 := Lib.hid (And.intro (H1.out.1.below hb2) (H1.out.2.trans (hb2.mono H1.out.2.size)))
    clear hb2 hTB
    go_wp2_with fail
    refine (toks_is w2 (baL TB) (by
      rw [ba_size]
      have h5 := HB.out.1.1
      rcases Nat.lt_or_ge 8192 TB.length with h | h
      · rw [(toksE_long h).1] at h5
        exact absurd h5 (by decide)
      · omega)).mono ?_
    rintro e w3 ⟨A3, c3, ts3, L3, E3, rfl, hb3, hT3, hE3, hg3, _⟩
    have hE30 : E3 = 0 := by rw [hE3, bs_ba]; exact HB.out.1.1
    subst hE30
    obtain ⟨h31, rfl⟩ := hg3 rfl
    have hk3 : ts3.map ktL = ts.map ktL := by rw [h31, bs_ba]; exact HB.out.1.2
    have HK3 := Lib.hid hk3
    have hl3 := (HTSM.out ts3 hk3).2
    rw [hl3] at hT3 ⊢
    have H3 := Lib.hid (And.intro hT3 (And.intro (H2.out.1.below hb3) (H2.out.2.trans (hb3.mono H2.out.2.size))))
    clear hb3 hT3 hE3 hg3 h31 hk3 hl3
    go_wp2_with fail
    refine (words_any w3 A n c ts H3.out.2.1 hn1).mono ?_
    rintro e w4 ⟨B4, d4, rfl, hW, hb4⟩
    have H4 := Lib.hid (And.intro hW (And.intro (H3.out.1.below hb4) (And.intro (H3.out.2.1.below hb4) (H3.out.2.2.trans (hb4.mono H3.out.2.2.size)))))
    clear hW hb4
    go_wp2_with fail
    refine (lsame_any w4 _ _ _ ts H4.out.2.2.1 _ _ _ ts3 H4.out.2.1).mono ?_
    rintro e w5 ⟨rfl, hb5⟩
    rw [decide_eq_true HK3.out.symm]
    have H5 := Lib.hid (And.intro (H4.out.1.below hb5) (And.intro (H4.out.2.1.below hb5) (And.intro (H4.out.2.2.1.below hb5) (H4.out.2.2.2.trans (hb5.mono H4.out.2.2.2.size)))))
    clear hb5
    go_wp2_with fail
    refine (text_any w5 _ _ _ ts3 H5.out.2.1 hn1 (HTSM.out ts3 HK3.out).1).mono ?_
    rintro e w6 ⟨rfl, hb6⟩
    rw [kt_of HK3.out, ← HTB.out]
    have H6 := Lib.hid (And.intro (H5.out.1.below hb6) (And.intro (H5.out.2.2.1.below hb6) (H5.out.2.2.2.trans (hb6.mono H5.out.2.2.2.size))))
    clear hb6
    go_wp2_with fail
    refine (lof_any w6 _ _ _ ts H6.out.2.1 hn1).mono ?_
    rintro e w7 ⟨B7, d7, rfl, hT7, hb7⟩
    have H7 := Lib.hid (And.intro (H6.out.1.below hb7) (And.intro (H6.out.2.1.below hb7) (And.intro (H6.out.2.2.trans (hb7.mono H6.out.2.2.size)) hT7)))
    clear hb7 hT7
    go_wp2_with fail
    refine (rtext_any w7 _ _ _ ts H7.out.2.2.2 hn1 HSm.out).mono ?_
    rintro e w8 ⟨rfl, hb8⟩
    rw [← HTB.out]
    have H8 := Lib.hid (And.intro (H7.out.1.below hb8) (And.intro (H7.out.2.1.below hb8) (H7.out.2.2.1.trans (hb8.mono H7.out.2.2.1.size))))
    clear hb8
    have hgi := HGI.out
    go_wp2_with fail
    clear hgi
    go_loopw [14, 15] (fun wv iv wr => ∃ (i : Nat) (V : By), i ≤ n ∧ iv = .int .i64 i ∧ wv = .string (baL V) ∧ V.length ≤ i * 76 ∧ Hid (V = wideAt G ts i) ∧ Hid (Below w8.heap.size w8 wr)) (fun _ iv _ => n - (intOf iv).toNat)
    case atStart => exact ⟨0, [], by omega, rfl, rfl, by simp, Lib.hid rfl, Lib.hid (Below.refl _ _)⟩
    case round =>
      obtain ⟨i, V, hi, rfl, rfl, hV, HV, HW⟩ := hrel
      by_cases hlt : i < n
      · obtain ⟨g, o, x, rfl, hg, hx, q0, q1, q2⟩ := (H8.out.2.1.below HW.out).row hlt
        obtain ⟨g2, o2, rfl, hg2, hc2⟩ := (H8.out.1.below HW.out).cells (by omega)
        have r1 := hc2 i x hx
        have hxl : x.text.length ≤ 60 := HSm.out x (List.mem_of_getElem? hx)
        obtain ⟨C1, hC1⟩ : ∃ C, C = V ++ G := ⟨_, rfl⟩
        obtain ⟨C2, hC2⟩ : ∃ C, C = C1 ++ x.text := ⟨_, rfl⟩
        have l1 : C1.length = V.length + G.length := by rw [hC1]; simp
        have l2 : C2.length = C1.length + x.text.length := by rw [hC2]; simp
        have s1 := fun W => add_ba V G (by omega) W
        have s2 := fun W => add_ba C1 x.text (by omega) W
        rw [← hC1] at s1
        rw [← hC2] at s2
        have HN2 : Hid (C2 = wideAt G ts (i + 1) ∧ C2.length ≤ (i + 1) * 76) := Lib.hid ⟨by rw [wideAt_next hx, ← HV.out, hC2, hC1], by omega⟩
        have HSS := Lib.hid (And.intro s1 s2)
        have c0 : (0 : Int) ≤ (i : Int) := by omega
        have c1 : (i : Int) < (n : Int) := by omega
        clear hx hg hg2 hc2 hC1 hC2 l1 l2 s1 s2 q0 q2
        go_wp2_with fail
        refine wp_hideQ ?_
        intro QQ hQQ
        refine wp_region_quick [some 87, some 88, some 89, some 90, some 91, some 92, some 93, some 94, some 95, some 96] [isV (.slice (some ⟨g2, o2, none⟩) n d4), isV (.int .i64 (i : Int)), isV (.pointer (some ⟨g2, o2 + i, none⟩)), isV (.string (baL x.text)), isV (.slice (some ⟨g, o, none⟩) n c), isV (.int .i64 (i : Int)), isV (.pointer (some ⟨g, o + i * 3, none⟩)), isV (.pointer (some ⟨g, o + i * 3 + 1, none⟩)), isV (.string (baL x.text)), isV (.bool false)] 10 (by kernel_rfl) rfl rfl rfl (by kernel_rfl) (by simp [isV.st]) ?_ ?_
        · intro hq rz hz
          match rz, hz with
          | 0, _ =>
            refine StepL.val rfl [] (by decide +kernel) ?_
            intro v wx hR hd
            exact ⟨wanted_plain rfl _, _, _, x_move rfl (fill_off rfl rfl), hR, Below.refl _ _, rfl⟩
          | 1, _ =>
            refine StepL.val rfl [] (by decide +kernel) ?_
            intro v wx hR hd
            exact ⟨wanted_plain rfl _, _, _, x_move rfl (fill_off rfl rfl), hR, Below.refl _ _, rfl⟩
          | 2, _ =>
            refine StepL.val rfl [0, 1] (by decide +kernel) ?_
            intro v wx hR hd
            have h0 : v 0 = _ := hd 0 (by simp)
            have h1 : v 1 = _ := hd 1 (by simp)
            exact ⟨wanted_plain rfl _, _, _, x_index rfl (hq.at_ rfl h0) (hq.at_ rfl h1) (r_index (e := 9) (size := 1) (by kernel_rfl) (by kernel_rfl) (by omega) (by omega) (by first | omega | simp)), hR, Below.refl _ _, rfl⟩
          | 3, _ =>
            refine StepL.val rfl [2] (by decide +kernel) ?_
            intro v wx hR hd
            have h2 : v 2 = _ := hd 2 (by simp)
            exact ⟨wanted_plain rfl _, _, _, x_load rfl (hq.at_ rfl h2) (r_load (by kernel_rfl) (pcell_below r1 hR)), hR, Below.refl _ _, rfl⟩
          | 4, _ =>
            refine StepL.val rfl [] (by decide +kernel) ?_
            intro v wx hR hd
            exact ⟨wanted_plain rfl _, _, _, x_move rfl (fill_off rfl rfl), hR, Below.refl _ _, rfl⟩
          | 5, _ =>
            refine StepL.val rfl [] (by decide +kernel) ?_
            intro v wx hR hd
            exact ⟨wanted_plain rfl _, _, _, x_move rfl (fill_off rfl rfl), hR, Below.refl _ _, rfl⟩
          | 6, _ =>
            refine StepL.val rfl [4, 5] (by decide +kernel) ?_
            intro v wx hR hd
            have h4 : v 4 = _ := hd 4 (by simp)
            have h5 : v 5 = _ := hd 5 (by simp)
            exact ⟨wanted_plain rfl _, _, _, x_index rfl (hq.at_ rfl h4) (hq.at_ rfl h5) (r_index (e := 37) (size := 3) (by kernel_rfl) (by kernel_rfl) (by omega) (by omega) (by first | omega | simp)), hR, Below.refl _ _, rfl⟩
          | 7, _ =>
            refine StepL.val rfl [6] (by decide +kernel) ?_
            intro v wx hR hd
            have h6 : v 6 = _ := hd 6 (by simp)
            exact ⟨wanted_plain rfl _, _, _, x_field rfl (hq.at_ rfl h6) (r_field (off := 1) (by kernel_rfl)), hR, Below.refl _ _, rfl⟩
          | 8, _ =>
            refine StepL.val rfl [7] (by decide +kernel) ?_
            intro v wx hR hd
            have h7 : v 7 = _ := hd 7 (by simp)
            exact ⟨wanted_plain rfl _, _, _, x_load rfl (hq.at_ rfl h7) (r_load (by kernel_rfl) (pcell_below q1 hR)), hR, Below.refl _ _, rfl⟩
          | 9, _ =>
            refine StepL.val rfl [3, 8] (by decide +kernel) ?_
            intro v wx hR hd
            have h3 : v 3 = _ := hd 3 (by simp)
            have h8 : v 8 = _ := hd 8 (by simp)
            exact ⟨wanted_plain rfl _, _, _, x_bin rfl (hq.at_ rfl h3) (hq.at_ rfl h8) (r_neqs rfl), hR, Below.refl _ _, rfl⟩
          | rz + 10, h => omega
        · intro v wz hR hV0
          have h9 : v 9 = _ := hV0 9 (by omega)
          simp only [fillR, Act.put, List.setIfInBounds_toArray, List.set_cons_zero, List.set_cons_succ, h9]
          have r2 := pcell_below r1 hR
          have HY := Lib.hid (HW.out.trans (hR.mono HW.out.size))
          obtain ⟨s1, s2⟩ := HSS.out
          clear hR hV0 h9 r1 q1
          go_wp2_with fail
          exact ⟨⟨i + 1, C2, hlt, by rw [Int.natCast_succ], rfl, HN2.out.2, Lib.hid HN2.out.1, HY⟩, by simp [intOf]; omega⟩
      · obtain rfl : i = n := by omega
        have HVE : Hid (V = wideL G (ts.map (·.text))) := Lib.hid (by rw [HV.out, wideAt_all HN.out.symm])
        obtain ⟨C3, hC3⟩ : ∃ C, C = V ++ G := ⟨_, rfl⟩
        have l3 : C3.length = V.length + G.length := by rw [hC3]; simp
        have s3 := fun W => add_ba V G (by omega) W
        rw [← hC3] at s3
        have hvs : (baL V).size = V.length := ba_size V
        have HC3 := Lib.hid hC3
        have H9 := Lib.hid (And.intro (H8.out.2.1.below HW.out) (H8.out.2.2.trans (HW.out.mono H8.out.2.2.size)))
        clear hC3
        go_wp2_with fail
        refine (toks_is wr (baL C3) (by rw [ba_size]; omega)).mono ?_
        rintro e wa ⟨A5, c5, ts5, L5, E5, rfl, hb5, hT5, hE5, hg5, _⟩
        rw [bs_ba] at hE5 hg5
        have HA := Lib.hid (And.intro hT5 (And.intro (H9.out.1.below hb5) (And.intro (H9.out.2.trans (hb5.mono H9.out.2.size)) (And.intro hE5 hg5))))
        clear hb5 hT5 hE5 hg5 l3 s3
        by_cases h8 : 8000 < V.length
        · have e1 : ((8000 : Int) < (V.length : Int)) = True := eq_true (by omega)
          have e2 : decide ((8000 : Int) < (V.length : Int)) = true := decide_eq_true (by omega)
          have e3 : ((8000 : Int) < ((baL V).size : Int)) = True := eq_true (by omega)
          have e4 : decide ((8000 : Int) < ((baL V).size : Int)) = true := decide_eq_true (by omega)
          clear h8
          go_wp2_with fail
          refine (lknown_walk wa).mono ?_
          rintro e w9 ⟨rfl, hb9⟩
          have HZ := Lib.hid (HA.out.2.2.1.trans (hb9.mono HA.out.2.2.1.size))
          clear hb9
          go_wp2_with fail
          go_ret
          exact ⟨rfl, HZ.out⟩
        · have hwb := HB.out.2 G HG.out (by rw [← HVE.out]; omega)
          rw [← HVE.out, ← HC3.out] at hwb
          have h50 : E5 = 0 := by rw [HA.out.2.2.2.1]; exact hwb.1
          have HK5 : Hid (ts5.map ktL = ts.map ktL) := Lib.hid (by rw [(HA.out.2.2.2.2 h50).1]; exact hwb.2)
          subst h50
          have e1 : ((8000 : Int) < (V.length : Int)) = False := eq_false (by omega)
          have e2 : decide ((8000 : Int) < (V.length : Int)) = false := decide_eq_false (by omega)
          have e3 : ((8000 : Int) < ((baL V).size : Int)) = False := eq_false (by omega)
          have e4 : decide ((8000 : Int) < ((baL V).size : Int)) = false := decide_eq_false (by omega)
          clear h8 hwb
          go_wp2_with fail
          refine (lknown_walk wa).mono ?_
          rintro e w9 ⟨rfl, hb9⟩
          have HZ := Lib.hid (And.intro (HA.out.1.below hb9) (And.intro (HA.out.2.1.below hb9) (HA.out.2.2.1.trans (hb9.mono HA.out.2.2.1.size))))
          clear hb9
          go_wp2_with fail
          refine (lsame_any w9 _ _ _ ts5 HZ.out.1 _ _ _ ts HZ.out.2.1).mono ?_
          rintro e wb ⟨rfl, hbb⟩
          rw [decide_eq_true HK5.out]
          have HY := Lib.hid (HZ.out.2.2.trans (hbb.mono HZ.out.2.2.size))
          clear hbb
          go_wp2_with fail
          go_ret
          exact ⟨rfl, HY.out⟩
  · have h5 := (hb1' hE0).1
    subst h5
    have H1 := Lib.hid hb1
    obtain ⟨f1, f2, f3, f4⟩ := ne_facts E 0 (by omega)
    clear hT hb1 hE hg1 hb1' hE0
    go_wp2_with fail
    refine (lknown_walk w1).mono ?_
    rintro e w4 ⟨rfl, hb4⟩
    have H4 := Lib.hid (H1.out.trans (hb4.mono H1.out.size))
    clear hb4
    go_wp2_with fail
    go_ret
    exact ⟨rfl, H4.out⟩
end Go.Proofs.Ytammomjnigalbaa
