/-
  ArchiveTells, walked: for every input the law returns true. Conditions: the constants lie in their variables; the entries lie in memory.
-/
import Derived.Test.YtbckiembnakmhaaDoorM19
import Derived.Test.YtbckiembnakmhaaDoorM13
import Derived.Test.YtbckiembnakmhaaDoorM10
section
set_option linter.unusedSimpArgs false
set_option linter.unusedVariables false
set_option maxRecDepth 100000
namespace Go.Proofs.YtbckiembnakmhaaDoor
open Go.RowKit

theorem range_ev32 {w w' : World} {g q : Nat} {cs : List Value} (h : w.rangeAt g q cs) (hb : Below w.heap.size w w') : w'.rangeAt g q cs := fun j v hj => pcell_below (h j v hj) hb
/-- What stays, wherever the law is. -/
structure TAt (w0 w : World) (A1 A2 : Option Addr) (n c1 c2 : Nat) (X Y : List Ev) (ts : List En) (B1 B2 : Option Addr) (m d1 d2 : Nat) (U V : List Ev) (us : List En) : Prop where
  roots : Roots Ks w
  pv : PV w
  l : EIn w A1 n c1 X ts
  lm : EIn w A2 n c2 Y ts
  lx : EIn w B1 m d1 U us
  ly : EIn w B2 m d2 V us
  b : Below w0.heap.size w0 w
theorem TAt.below {w0 w w' : World} {A1 A2 : Option Addr} {n c1 c2 : Nat} {X Y : List Ev} {ts : List En} {B1 B2 : Option Addr} {m d1 d2 : Nat} {U V : List Ev} {us : List En} (h : TAt w0 w A1 A2 n c1 c2 X Y ts B1 B2 m d1 d2 U V us) (hb : Below w.heap.size w w') : TAt w0 w' A1 A2 n c1 c2 X Y ts B1 B2 m d1 d2 U V us :=
  ⟨h.roots.below hb h.roots.pos, h.pv.to hb, h.l.below hb, h.lm.below hb, h.lx.below hb, h.ly.below hb, h.b.trans (hb.mono h.b.size)⟩
set_option maxHeartbeats 16000000 in
theorem tells12_walk (w : World) (hV : PV w) (hK : Roots Ks w) (A : Option Addr) (n0 c : Nat) (xs : List Ev) (es : List En) (h : ERd w A n0 c xs es) (B : Option Addr) (m0 d : Nat) (ys : List Ev) (fs : List En) (k : ERd w B m0 d ys fs) (C : Option Addr) (p0 e0 : Nat) (q : Pa) (hq : SIn w C p0 e0 q) :
    Calls Tryd.prog 3 #[.slice A n0 c, .slice B m0 d, .slice C p0 e0] w fun e w' => e = .returned (.bool true) ∧ Below w.heap.size w w' := by
  have HT := Lib.hid (to12_any w A n0 c xs es h)
  have HV := Lib.hid (And.intro hV (And.intro hK (And.intro k hq)))
  have HL := Lib.hid (And.intro (toEs_length es) (toEs_length fs))
  obtain ⟨ts, hts⟩ : ∃ ts, ts = toEs es := ⟨_, rfl⟩
  obtain ⟨us, hus⟩ : ∃ ts, ts = toEs fs := ⟨_, rfl⟩
  have HUS := Lib.hid hus
  rw [← hts] at HT HL
  rw [← hus] at HL
  clear h hV hK k hq hts hus
  obtain ⟨n, hn⟩ : ∃ n, n = ts.length := ⟨_, rfl⟩
  obtain ⟨m, hm⟩ : ∃ m, m = us.length := ⟨_, rfl⟩
  have HNM := Lib.hid (And.intro hn hm)
  rw [← hn] at HT HL
  rw [← hm] at HL
  clear hn hm
  have hn41 : n ≤ 41 := HL.out.1
  have hm41 : m ≤ 41 := HL.out.2
  go_enter Tryd.func3, Tryd.ntmps3
  go_wp2_with fail
  refine HT.out.mono ?_
  rintro en w1 ⟨A1, c1, A2, c2, X, Y, rfl, l1, m1, h1⟩
  have H1 := Lib.hid (And.intro l1 (And.intro m1 h1))
  have HT2 := Lib.hid (to12_any w1 B m0 d ys fs (HV.out.2.2.1.below h1))
  have hq1 := Lib.hid (HV.out.2.2.2.below h1)
  clear l1 m1 h1
  rw [← HUS.out, ← HNM.out.2] at HT2
  go_wp2_with fail
  refine HT2.out.mono ?_
  rintro en w2 ⟨B1, d1, B2, d2, U, V, rfl, x2, y2, h2⟩
  have T2 : Hid (TAt w w2 A1 A2 n c1 c2 X Y ts B1 B2 m d1 d2 U V us) := Lib.hid (by
    have hb := H1.out.2.2.trans (h2.mono H1.out.2.2.size)
    exact ⟨HV.out.2.1.below hb HV.out.2.1.pos, HV.out.1.to hb, H1.out.1.below h2, H1.out.2.1.below h2, x2, y2, hb⟩)
  have hq2 := Lib.hid (hq1.out.below h2)
  clear x2 y2 h2
  go_wp2_with fail
  refine (few_any w2 C p0 e0 q hq2.out).mono ?_
  rintro en w3 ⟨v3, rfl, o3, h3⟩
  obtain ⟨C3, e3, rfl⟩ := own_slice o3
  have T3 := Lib.hid (T2.out.below h3)
  have hq3 := Lib.hid (sin_own o3)
  clear o3 h3
  obtain ⟨r, hr⟩ : ∃ r, r = fewP q := ⟨_, rfl⟩
  rw [← hr] at hq3 ⊢
  clear hr
  go_wp2_with fail
  refine (find12_any w3 A1 n c1 X ts T3.out.l C3 _ e3 r hq3.out).mono ?_
  rintro en w4 ⟨y, z, rfl, hF, h4⟩
  have T4 := Lib.hid (T3.out.below h4)
  have HF := Lib.hid hF
  have HZ := Lib.hid (Blk.new w4 30 [.slice none 0 0, .int .i64 0, .int .i64 0, .slice none 0 0])
  have hq4 := Lib.hid (hq3.out.below h4)
  clear hF h4
  go_wp2_with (refine wpList_store_blk rfl 30 (.tmp 11) (.tmp 36) rfl w4.heap.size 0 (evC y) rfl rfl HZ.out (by simp [evC]) infoEv (evC_one _) ?_; intro w5 hA hO; rw [over_whole (by simp [evC])] at hA; have hb5 := (pnew w4 _).trans (hO.below (B := w4.heap.size) (by simp) (by simp)); have H5 := Lib.hid (And.intro hA hb5); have T5 := Lib.hid (T4.out.below hb5); have hq5 := Lib.hid (hq4.out.below hb5); clear hA hO hb5)
  refine (rfind12_any w5 A2 n c2 Y ts T5.out.lm C3 _ e3 r hq5.out).mono ?_
  rintro en w6 ⟨rfl, h6⟩
  have T6 := Lib.hid (T5.out.below h6)
  have HB := Lib.hid (H5.out.1.below h6 H5.out.1.lt)
  have HP := Lib.hid (H5.out.2.trans (h6.mono H5.out.2.size))
  clear h6
  have HS := Lib.hid (sums_small T6.out.l.smalls)
  have HEN : Hid (ts.take n = ts) := Lib.hid (by rw [HNM.out.1, List.take_length])
  cases ha : atE ts r with
  | none =>
    obtain rfl : z = 7 := by
      have hf := HF.out
      unfold FindOut at hf
      rw [ha] at hf
      exact hf
    clear ha
    unfold plN
    go_wp2_with fail
    refine wp_hideQ ?_
    intro QQ hQQ
    refine wp_region_quick [some 41, some 42, some 43, some 44, some 45, some 46, some 47, some 48, some 49, some 50, some 51, some 52, some 53, some 54, some 55, some 56, some 57, some 58, some 59, some 60, some 61, some 62, some 63, some 64, some 65, some 66] [isV (.int .i64 (-1)), isV (.bool true), isV (.bool true), isV (.int .i64 7), isV (.bool false), isV (.bool false), isV (.bool false), isV (.int .i64 (-1)), isV (.bool false), isV (.bool false), isV (undef), isV (undef), isV (undef), isV (undef), isV (undef), isV (undef), isV (undef), isV (undef), isV (undef), isV (undef), isV (undef), isV (undef), isV (undef), isV (undef), isV (.bool false), isV (.bool false)] 26 (by kernel_rfl) rfl rfl rfl (by kernel_rfl) (by simp [isV.st]) ?_ ?_
    · intro hq rz hz
      match rz, hz with
      | 0, _ =>
        refine StepL.val rfl [] (by decide +kernel) ?_
        intro v wx hR hd
        exact ⟨wanted_plain rfl _, _, _, x_move rfl (fill_off rfl rfl), hR, Below.refl _ _, rfl⟩
      | 1, _ =>
        refine StepL.val rfl [0] (by decide +kernel) ?_
        intro v wx hR hd
        have h0 : v 0 = _ := hd 0 (by simp)
        exact ⟨wanted_plain rfl _, _, _, x_bin rfl (hq.at_ rfl h0) rfl (r_lss (by simp)), hR, Below.refl _ _, rfl⟩
      | 2, _ =>
        refine StepL.val rfl [1] (by decide +kernel) ?_
        intro v wx hR hd
        have h1 : v 1 = _ := hd 1 (by simp)
        exact ⟨wanted_plain rfl _, _, _, x_move rfl (hq.at_ rfl h1), hR, Below.refl _ _, rfl⟩
      | 3, _ =>
        refine StepL.val rfl [2] (by decide +kernel) ?_
        intro v wx hR hd
        have h2 : v 2 = _ := hd 2 (by simp)
        exact ⟨hq.yes rfl rfl rfl h2, _, _, x_move rfl (fill_off rfl rfl), hR, Below.refl _ _, rfl⟩
      | 4, _ =>
        refine StepL.val rfl [2, 3] (by decide +kernel) ?_
        intro v wx hR hd
        have h2 : v 2 = _ := hd 2 (by simp)
        have h3 : v 3 = _ := hd 3 (by simp)
        exact ⟨hq.yes rfl rfl rfl h2, _, _, x_bin rfl (hq.at_ rfl h3) rfl (r_neq (by simp)), hR, Below.refl _ _, rfl⟩
      | 5, _ =>
        refine StepL.val rfl [2, 4] (by decide +kernel) ?_
        intro v wx hR hd
        have h2 : v 2 = _ := hd 2 (by simp)
        have h4 : v 4 = _ := hd 4 (by simp)
        exact ⟨wanted_plain rfl _, _, _, x_pick_yes rfl (hq.at_ rfl h2) (hq.at_ rfl h4), hR, Below.refl _ _, rfl⟩
      | 6, _ =>
        refine StepL.val rfl [5] (by decide +kernel) ?_
        intro v wx hR hd
        have h5 : v 5 = _ := hd 5 (by simp)
        exact ⟨wanted_plain rfl _, _, _, x_move rfl (hq.at_ rfl h5), hR, Below.refl _ _, rfl⟩
      | 7, _ =>
        refine StepL.val rfl [6] (by decide +kernel) ?_
        intro v wx hR hd
        have h6 : v 6 = _ := hd 6 (by simp)
        exact ⟨hq.yes rfl rfl rfl h6, _, _, x_move rfl (fill_off rfl rfl), hR, Below.refl _ _, rfl⟩
      | 8, _ =>
        refine StepL.val rfl [6, 7] (by decide +kernel) ?_
        intro v wx hR hd
        have h6 : v 6 = _ := hd 6 (by simp)
        have h7 : v 7 = _ := hd 7 (by simp)
        exact ⟨hq.yes rfl rfl rfl h6, _, _, x_bin rfl (hq.at_ rfl h7) rfl (r_geq (by simp)), hR, Below.refl _ _, rfl⟩
      | 9, _ =>
        refine StepL.val rfl [6, 8] (by decide +kernel) ?_
        intro v wx hR hd
        have h6 : v 6 = _ := hd 6 (by simp)
        have h8 : v 8 = _ := hd 8 (by simp)
        exact ⟨hq.yes rfl rfl rfl h6, _, _, x_move rfl (hq.at_ rfl h8), hR, Below.refl _ _, rfl⟩
      | 10, _ =>
        refine StepL.skip rfl [9] (by decide +kernel) ?_
        intro v wx hR hd
        have h9 : v 9 = _ := hd 9 (by simp)
        exact ⟨hq.no rfl rfl rfl h9 rfl, Below.refl _ _, rfl⟩
      | 11, _ =>
        refine StepL.skip rfl [9] (by decide +kernel) ?_
        intro v wx hR hd
        have h9 : v 9 = _ := hd 9 (by simp)
        exact ⟨hq.no rfl rfl rfl h9 rfl, Below.refl _ _, rfl⟩
      | 12, _ =>
        refine StepL.skip rfl [9] (by decide +kernel) ?_
        intro v wx hR hd
        have h9 : v 9 = _ := hd 9 (by simp)
        exact ⟨hq.no rfl rfl rfl h9 rfl, Below.refl _ _, rfl⟩
      | 13, _ =>
        refine StepL.skip rfl [12] (by decide +kernel) ?_
        intro v wx hR hd
        have h12 : v 12 = _ := hd 12 (by simp)
        exact ⟨hq.un rfl rfl rfl h12, Below.refl _ _, rfl⟩
      | 14, _ =>
        refine StepL.skip rfl [12] (by decide +kernel) ?_
        intro v wx hR hd
        have h12 : v 12 = _ := hd 12 (by simp)
        exact ⟨hq.un rfl rfl rfl h12, Below.refl _ _, rfl⟩
      | 15, _ =>
        refine StepL.skip rfl [12] (by decide +kernel) ?_
        intro v wx hR hd
        have h12 : v 12 = _ := hd 12 (by simp)
        exact ⟨hq.un rfl rfl rfl h12, Below.refl _ _, rfl⟩
      | 16, _ =>
        refine StepL.skip rfl [12] (by decide +kernel) ?_
        intro v wx hR hd
        have h12 : v 12 = _ := hd 12 (by simp)
        exact ⟨hq.un rfl rfl rfl h12, Below.refl _ _, rfl⟩
      | 17, _ =>
        refine StepL.skip rfl [12] (by decide +kernel) ?_
        intro v wx hR hd
        have h12 : v 12 = _ := hd 12 (by simp)
        exact ⟨hq.un rfl rfl rfl h12, Below.refl _ _, rfl⟩
      | 18, _ =>
        refine StepL.skip rfl [12] (by decide +kernel) ?_
        intro v wx hR hd
        have h12 : v 12 = _ := hd 12 (by simp)
        exact ⟨hq.un rfl rfl rfl h12, Below.refl _ _, rfl⟩
      | 19, _ =>
        refine StepL.skip rfl [12] (by decide +kernel) ?_
        intro v wx hR hd
        have h12 : v 12 = _ := hd 12 (by simp)
        exact ⟨hq.un rfl rfl rfl h12, Below.refl _ _, rfl⟩
      | 20, _ =>
        refine StepL.skip rfl [12] (by decide +kernel) ?_
        intro v wx hR hd
        have h12 : v 12 = _ := hd 12 (by simp)
        exact ⟨hq.un rfl rfl rfl h12, Below.refl _ _, rfl⟩
      | 21, _ =>
        refine StepL.skip rfl [12] (by decide +kernel) ?_
        intro v wx hR hd
        have h12 : v 12 = _ := hd 12 (by simp)
        exact ⟨hq.un rfl rfl rfl h12, Below.refl _ _, rfl⟩
      | 22, _ =>
        refine StepL.skip rfl [12] (by decide +kernel) ?_
        intro v wx hR hd
        have h12 : v 12 = _ := hd 12 (by simp)
        exact ⟨hq.un rfl rfl rfl h12, Below.refl _ _, rfl⟩
      | 23, _ =>
        refine StepL.skip rfl [9] (by decide +kernel) ?_
        intro v wx hR hd
        have h9 : v 9 = _ := hd 9 (by simp)
        exact ⟨hq.no rfl rfl rfl h9 rfl, Below.refl _ _, rfl⟩
      | 24, _ =>
        refine StepL.val rfl [6, 9, 23] (by decide +kernel) ?_
        intro v wx hR hd
        have h6 : v 6 = _ := hd 6 (by simp)
        have h9 : v 9 = _ := hd 9 (by simp)
        have h23 : v 23 = _ := hd 23 (by simp)
        exact ⟨hq.yes rfl rfl rfl h6, _, _, x_pick_no rfl (hq.at_ rfl h9) rfl, hR, Below.refl _ _, rfl⟩
      | 25, _ =>
        refine StepL.val rfl [6, 24] (by decide +kernel) ?_
        intro v wx hR hd
        have h6 : v 6 = _ := hd 6 (by simp)
        have h24 : v 24 = _ := hd 24 (by simp)
        exact ⟨wanted_plain rfl _, _, _, x_pick_no rfl (hq.at_ rfl h6) (hq.at_ rfl h24), hR, Below.refl _ _, rfl⟩
      | rz + 26, h => omega
    · intro v wx hR hV
      have h25 : v 25 = _ := hV 25 (by omega)
      simp only [fillR, Act.put, List.setIfInBounds_toArray, List.set_cons_zero, List.set_cons_succ, h25]
      clear h25
      have T7 := Lib.hid (T6.out.below hR)
      clear hV hR
      go_wp2_with fail
      refine (digs_any Ks wx T7.out.roots A1 n c1 X ts T7.out.l (by omega)).mono ?_
      rintro en w7 ⟨v7, rfl, o7, h7⟩
      obtain ⟨D, dc, rfl⟩ := own_slice o7
      have T8 := Lib.hid (T7.out.below h7)
      have HD := Lib.hid o7
      clear o7 h7
      go_wp2_with fail
      go_loopw [14, 15, 17] (fun u14 u15 iv wr => ∃ i : Nat, i ≤ n ∧ u14 = .int .i64 (filesE (ts.take i) : Nat) ∧ u15 = .int .i64 (sizeE (ts.take i) : Nat) ∧ iv = .int .i64 i ∧ Hid (Below w7.heap.size w7 wr)) (fun _ _ iv _ => n - (intOf iv).toNat)
      case atStart => exact ⟨0, by omega, rfl, rfl, rfl, Lib.hid (Below.refl _ _)⟩
      case round =>
        obtain ⟨i, hi, rfl, rfl, rfl, HW⟩ := hrel
        by_cases hlt : i < n
        · obtain ⟨g, o, x, e, hA2, hg, hx, he, hok, hcl⟩ := (T8.out.lm.below HW.out).row hlt
          obtain ⟨gd, dc2, hDv, hdc⟩ := digs_cells HD.out (by omega)
          cases hA2
          cases hDv
          obtain ⟨dg, hdg⟩ : ∃ d, sha Ks e.data = d := ⟨_, rfl⟩
          have hls := sha_length Ks e.data
          have hd0 := range_ev32 (hdc i e he) HW.out
          rw [hdg] at hls hd0
          have HG := Lib.hid hdg
          have q1 : wr.cell? ⟨g, o + i * 4 + 1, none⟩ = some (.int .i64 x.k) := hcl 1 _ rfl
          have q3 : wr.cell? ⟨g, o + i * 4 + 3, none⟩ = some (.slice x.DA x.dn x.dc) := hcl 3 _ rfl
          have HDA := Lib.hid (And.intro (T8.out.roots.below HW.out T8.out.roots.pos) (And.intro hok.data hok.small.data))
          have HN := Lib.hid (And.intro (files_next he) (size_next he))
          have hs1 := (HS.out i).1
          have hs2 := (HS.out i).2
          have hdn : x.dn ≤ 1000000 := by have := hok.small.data; rw [hok.data.len] at this; exact this
          have HKK := Lib.hid (And.intro hok.kind hok.data.len)
          have b0 : (0 : Int) ≤ (i : Int) := by omega
          have b1 : (i : Int) < (n : Int) := by omega
          obtain ⟨F, hF⟩ : ∃ F, F = filesE (ts.take i) := ⟨_, rfl⟩
          obtain ⟨Z, hZ⟩ : ∃ Z, Z = sizeE (ts.take i) := ⟨_, rfl⟩
          rw [← hF] at hs1 HN
          rw [← hZ] at hs2 HN
          rw [← hF, ← hZ]
          clear hx he hok hcl hg hdc hF hZ hdg
          have hw1 : wrap64 ((F : Int) + 1) = (F : Int) + 1 := by unfold wrap64; omega
          have hw2 : wrap64 ((Z : Int) + (x.dn : Int)) = (Z : Int) + (x.dn : Int) := by unfold wrap64; omega
          by_cases hk : x.k = 0
          · have HTS : Hid (filesE (ts.take (i + 1)) = F + 1 ∧ sizeE (ts.take (i + 1)) = Z + x.dn) := Lib.hid (by rw [HN.out.1, HN.out.2, HKK.out.1, if_pos hk, if_pos hk, HKK.out.2]; exact ⟨rfl, rfl⟩)
            go_wp2_with fail
            refine wp_hideQ ?_
            intro QQ hQQ
            refine wp_region_quick [some 96, some 97, some 98, some 99, some 100, some 101, some 102, some 103, some 104, some 105, some 106, some 107] [isV (.slice (some ⟨gd, 0, none⟩) n dc), isV (.int .i64 (i : Int)), isV (.pointer (some ⟨gd, i * 32, none⟩)), isV (.agg (Vb dg).toArray), isV (.slice (some ⟨g, o, none⟩) n c2), isV (.int .i64 (i : Int)), isV (.pointer (some ⟨g, o + i * 4, none⟩)), isV (.pointer (some ⟨g, o + i * 4 + 3, none⟩)), isV (.slice x.DA x.dn x.dc), rowOneE 28 wr.heap.size [.slice x.DA x.dn x.dc], isV (.agg (Vb dg).toArray), isV (.bool false)] 12 (by kernel_rfl) rfl rfl rfl (by kernel_rfl) (by simp [isV.st, rowOneE.st]) ?_ ?_
            · intro hq rz hz
              match rz, hz with
              | 0, _ =>
                refine StepL.val rfl [] (by decide +kernel) ?_
                intro v wx hR hd
                exact ⟨wanted_plain rfl _, _, _, x_move rfl (fill_off rfl rfl), hR, Below.refl _ _, rfl⟩
              | 1, _ =>
                refine StepL.val rfl [] (by decide +kernel) ?_
                intro v wx hR hd
                exact ⟨wanted_plain rfl _, _, _, x_move rfl (fill_off rfl rfl), hR, Below.refl _ _, rfl⟩
              | 2, _ =>
                refine StepL.val rfl [0, 1] (by decide +kernel) ?_
                intro v wx hR hd
                have h0 : v 0 = _ := hd 0 (by simp)
                have h1 : v 1 = _ := hd 1 (by simp)
                exact ⟨wanted_plain rfl _, _, _, x_index rfl (hq.at_ rfl h0) (hq.at_ rfl h1) (r_index (e := 40) (size := 32) (by kernel_rfl) (by kernel_rfl) (by omega) (by omega) (by first | omega | simp)), hR, Below.refl _ _, rfl⟩
              | 3, _ =>
                refine StepL.val rfl [2] (by decide +kernel) ?_
                intro v wx hR hd
                have h2 : v 2 = _ := hd 2 (by simp)
                exact ⟨wanted_plain rfl _, xe_ex (x_load rfl (hq.at_ rfl h2) (r_loadR (cs := Vb dg) (by rw [Vb_length, hls]; kernel_rfl) (range_ev32 hd0 hR))) ⟨hR, Below.refl _ _, rfl⟩⟩
              | 4, _ =>
                refine StepL.val rfl [] (by decide +kernel) ?_
                intro v wx hR hd
                exact ⟨wanted_plain rfl _, _, _, x_move rfl (fill_off rfl rfl), hR, Below.refl _ _, rfl⟩
              | 5, _ =>
                refine StepL.val rfl [] (by decide +kernel) ?_
                intro v wx hR hd
                exact ⟨wanted_plain rfl _, _, _, x_move rfl (fill_off rfl rfl), hR, Below.refl _ _, rfl⟩
              | 6, _ =>
                refine StepL.val rfl [4, 5] (by decide +kernel) ?_
                intro v wx hR hd
                have h4 : v 4 = _ := hd 4 (by simp)
                have h5 : v 5 = _ := hd 5 (by simp)
                exact ⟨wanted_plain rfl _, _, _, x_index rfl (hq.at_ rfl h4) (hq.at_ rfl h5) (r_index (e := 39) (size := 4) (by kernel_rfl) (by kernel_rfl) (by omega) (by omega) (by first | omega | simp)), hR, Below.refl _ _, rfl⟩
              | 7, _ =>
                refine StepL.val rfl [6] (by decide +kernel) ?_
                intro v wx hR hd
                have h6 : v 6 = _ := hd 6 (by simp)
                exact ⟨wanted_plain rfl _, _, _, x_field rfl (hq.at_ rfl h6) (r_field (off := 3) (by kernel_rfl)), hR, Below.refl _ _, rfl⟩
              | 8, _ =>
                refine StepL.val rfl [7] (by decide +kernel) ?_
                intro v wx hR hd
                have h7 : v 7 = _ := hd 7 (by simp)
                exact ⟨wanted_plain rfl _, _, _, x_load rfl (hq.at_ rfl h7) (r_load (by kernel_rfl) (pcell_below q3 hR)), hR, Below.refl _ _, rfl⟩
              | 9, _ =>
                refine StepL.val rfl [8] (by decide +kernel) ?_
                intro v wx hR hd
                have h8 : v 8 = _ := hd 8 (by simp)
                have hb := pnew wx (.cells #[.slice x.DA x.dn x.dc] 28)
                exact ⟨wanted_plain rfl _, xe_ex (x_slice rfl (pairs_1 (hq.at_ rfl h8)) (slice_bs wx _ _ _)) ⟨hR.trans (hb.mono hR.size), hb, _, rfl, hR.size, Blk.new wx 28 [.slice x.DA x.dn x.dc]⟩⟩
              | 10, _ =>
                refine StepL.call rfl [9] (by decide +kernel) ?_
                intro v wx hR hd
                obtain ⟨p9, h9, hp9, hk9⟩ : rowOneE 28 wr.heap.size [.slice x.DA x.dn x.dc] (v 9) wx := hd 9 (by simp)
                refine ⟨wanted_plain rfl _, 13, _, _, x_call rfl rfl (args_1 (hq.at_ rfl h9)) (by kernel_rfl) rfl, ?_⟩
                refine (of_any Ks wx wx.heap.size _ 1 1 [e.data] (HDA.out.1.below hR HDA.out.1.pos) (txts_one hk9 (HDA.out.2.1.below hR) (Nat.le_refl _)) (by omega) (by have := HDA.out.2.2; simp; omega)).mono ?_
                rintro en w' ⟨rfl, hW⟩
                exact ⟨.agg (Vb dg).toArray, by rw [show [e.data].flatten = e.data by simp, HG.out], hR.trans (hW.mono hR.size), hW, rfl⟩
              | 11, _ =>
                refine StepL.val rfl [3, 10] (by decide +kernel) ?_
                intro v wx hR hd
                have h3 : v 3 = _ := hd 3 (by simp)
                have h10 : v 10 = _ := hd 10 (by simp)
                exact ⟨wanted_plain rfl _, _, _, x_bin rfl (hq.at_ rfl h3) (hq.at_ rfl h10) (r_neq32 dg hls _), hR, Below.refl _ _, rfl⟩
              | rz + 12, h => omega
            · intro v wx hR hV
              have h11 : v 11 = _ := hV 11 (by omega)
              simp only [fillR, Act.put, List.setIfInBounds_toArray, List.set_cons_zero, List.set_cons_succ, h11]
              have HR := Lib.hid (HW.out.trans (hR.mono HW.out.size))
              clear hV hR h11 q1 q3 hd0
              go_wp2_with fail
              exact ⟨⟨i + 1, by omega, by rw [HTS.out.1]; go_num, by rw [HTS.out.2]; go_num, by go_num, HR⟩, by simp [intOf]; omega⟩
          · have HTS : Hid (filesE (ts.take (i + 1)) = F ∧ sizeE (ts.take (i + 1)) = Z) := Lib.hid (by rw [HN.out.1, HN.out.2, HKK.out.1, if_neg hk, if_neg hk]; exact ⟨rfl, rfl⟩)
            go_wp2_with fail
            refine wp_hideQ ?_
            intro QQ hQQ
            refine wp_region_quick [some 96, some 97, some 98, some 99, some 100, some 101, some 102, some 103, some 104, some 105, some 106, some 107] [isV (.slice (some ⟨gd, 0, none⟩) n dc), isV (.int .i64 (i : Int)), isV (.pointer (some ⟨gd, i * 32, none⟩)), isV (.agg (Vb dg).toArray), isV (.slice (some ⟨g, o, none⟩) n c2), isV (.int .i64 (i : Int)), isV (.pointer (some ⟨g, o + i * 4, none⟩)), isV (.pointer (some ⟨g, o + i * 4 + 3, none⟩)), isV (.slice x.DA x.dn x.dc), rowOneE 28 wr.heap.size [.slice x.DA x.dn x.dc], isV (.agg (Vb dg).toArray), isV (.bool false)] 12 (by kernel_rfl) rfl rfl rfl (by kernel_rfl) (by simp [isV.st, rowOneE.st]) ?_ ?_
            · intro hq rz hz
              match rz, hz with
              | 0, _ =>
                refine StepL.val rfl [] (by decide +kernel) ?_
                intro v wx hR hd
                exact ⟨wanted_plain rfl _, _, _, x_move rfl (fill_off rfl rfl), hR, Below.refl _ _, rfl⟩
              | 1, _ =>
                refine StepL.val rfl [] (by decide +kernel) ?_
                intro v wx hR hd
                exact ⟨wanted_plain rfl _, _, _, x_move rfl (fill_off rfl rfl), hR, Below.refl _ _, rfl⟩
              | 2, _ =>
                refine StepL.val rfl [0, 1] (by decide +kernel) ?_
                intro v wx hR hd
                have h0 : v 0 = _ := hd 0 (by simp)
                have h1 : v 1 = _ := hd 1 (by simp)
                exact ⟨wanted_plain rfl _, _, _, x_index rfl (hq.at_ rfl h0) (hq.at_ rfl h1) (r_index (e := 40) (size := 32) (by kernel_rfl) (by kernel_rfl) (by omega) (by omega) (by first | omega | simp)), hR, Below.refl _ _, rfl⟩
              | 3, _ =>
                refine StepL.val rfl [2] (by decide +kernel) ?_
                intro v wx hR hd
                have h2 : v 2 = _ := hd 2 (by simp)
                exact ⟨wanted_plain rfl _, xe_ex (x_load rfl (hq.at_ rfl h2) (r_loadR (cs := Vb dg) (by rw [Vb_length, hls]; kernel_rfl) (range_ev32 hd0 hR))) ⟨hR, Below.refl _ _, rfl⟩⟩
              | 4, _ =>
                refine StepL.val rfl [] (by decide +kernel) ?_
                intro v wx hR hd
                exact ⟨wanted_plain rfl _, _, _, x_move rfl (fill_off rfl rfl), hR, Below.refl _ _, rfl⟩
              | 5, _ =>
                refine StepL.val rfl [] (by decide +kernel) ?_
                intro v wx hR hd
                exact ⟨wanted_plain rfl _, _, _, x_move rfl (fill_off rfl rfl), hR, Below.refl _ _, rfl⟩
              | 6, _ =>
                refine StepL.val rfl [4, 5] (by decide +kernel) ?_
                intro v wx hR hd
                have h4 : v 4 = _ := hd 4 (by simp)
                have h5 : v 5 = _ := hd 5 (by simp)
                exact ⟨wanted_plain rfl _, _, _, x_index rfl (hq.at_ rfl h4) (hq.at_ rfl h5) (r_index (e := 39) (size := 4) (by kernel_rfl) (by kernel_rfl) (by omega) (by omega) (by first | omega | simp)), hR, Below.refl _ _, rfl⟩
              | 7, _ =>
                refine StepL.val rfl [6] (by decide +kernel) ?_
                intro v wx hR hd
                have h6 : v 6 = _ := hd 6 (by simp)
                exact ⟨wanted_plain rfl _, _, _, x_field rfl (hq.at_ rfl h6) (r_field (off := 3) (by kernel_rfl)), hR, Below.refl _ _, rfl⟩
              | 8, _ =>
                refine StepL.val rfl [7] (by decide +kernel) ?_
                intro v wx hR hd
                have h7 : v 7 = _ := hd 7 (by simp)
                exact ⟨wanted_plain rfl _, _, _, x_load rfl (hq.at_ rfl h7) (r_load (by kernel_rfl) (pcell_below q3 hR)), hR, Below.refl _ _, rfl⟩
              | 9, _ =>
                refine StepL.val rfl [8] (by decide +kernel) ?_
                intro v wx hR hd
                have h8 : v 8 = _ := hd 8 (by simp)
                have hb := pnew wx (.cells #[.slice x.DA x.dn x.dc] 28)
                exact ⟨wanted_plain rfl _, xe_ex (x_slice rfl (pairs_1 (hq.at_ rfl h8)) (slice_bs wx _ _ _)) ⟨hR.trans (hb.mono hR.size), hb, _, rfl, hR.size, Blk.new wx 28 [.slice x.DA x.dn x.dc]⟩⟩
              | 10, _ =>
                refine StepL.call rfl [9] (by decide +kernel) ?_
                intro v wx hR hd
                obtain ⟨p9, h9, hp9, hk9⟩ : rowOneE 28 wr.heap.size [.slice x.DA x.dn x.dc] (v 9) wx := hd 9 (by simp)
                refine ⟨wanted_plain rfl _, 13, _, _, x_call rfl rfl (args_1 (hq.at_ rfl h9)) (by kernel_rfl) rfl, ?_⟩
                refine (of_any Ks wx wx.heap.size _ 1 1 [e.data] (HDA.out.1.below hR HDA.out.1.pos) (txts_one hk9 (HDA.out.2.1.below hR) (Nat.le_refl _)) (by omega) (by have := HDA.out.2.2; simp; omega)).mono ?_
                rintro en w' ⟨rfl, hW⟩
                exact ⟨.agg (Vb dg).toArray, by rw [show [e.data].flatten = e.data by simp, HG.out], hR.trans (hW.mono hR.size), hW, rfl⟩
              | 11, _ =>
                refine StepL.val rfl [3, 10] (by decide +kernel) ?_
                intro v wx hR hd
                have h3 : v 3 = _ := hd 3 (by simp)
                have h10 : v 10 = _ := hd 10 (by simp)
                exact ⟨wanted_plain rfl _, _, _, x_bin rfl (hq.at_ rfl h3) (hq.at_ rfl h10) (r_neq32 dg hls _), hR, Below.refl _ _, rfl⟩
              | rz + 12, h => omega
            · intro v wx hR hV
              have h11 : v 11 = _ := hV 11 (by omega)
              simp only [fillR, Act.put, List.setIfInBounds_toArray, List.set_cons_zero, List.set_cons_succ, h11]
              have HR := Lib.hid (HW.out.trans (hR.mono HW.out.size))
              clear hV hR h11 q1 q3 hd0
              go_wp2_with fail
              exact ⟨⟨i + 1, by omega, by rw [HTS.out.1], by rw [HTS.out.2], by go_num, HR⟩, by simp [intOf]; omega⟩
        · obtain rfl : i = n := by omega
          rw [HEN.out]
          obtain ⟨b, hb⟩ : ∃ b, decide (ts = us) = b := ⟨_, rfl⟩
          have HBB := Lib.hid hb
          clear hb
          go_wp2_with fail
          refine (sizes_any wr A1 i c1 X ts (T8.out.l.below HW.out) (by omega)).mono ?_
          rintro en w9 ⟨rfl, h9⟩
          have T9 := Lib.hid (T8.out.below (HW.out.trans (h9.mono HW.out.size)))
          clear h9
          go_wp2_with (first
            | (go_at_call 15; refine (known12_any w9 T9.out.pv).mono ?_; rintro e w10 ⟨rfl, h10⟩; have T10 := Lib.hid (T9.out.below h10); clear h10)
            | (refine (asame_any w10 A1 i c1 X ts T10.out.l B1 m d1 U us T10.out.lx).mono ?_; rintro e w11 ⟨rfl, h11⟩; rw [HBB.out]; have T11 := Lib.hid (T10.out.below h11); clear h11)
            | (refine (rsame12_any w11 A2 i c2 Y ts T11.out.lm B2 m d2 V us T11.out.ly).mono ?_; rintro e w12 ⟨rfl, h12⟩; rw [HBB.out]; have T12 := Lib.hid (T11.out.below h12); clear h12)
            | (refine (asame_any w12 A1 i c1 X ts T12.out.l A1 i c1 X ts T12.out.l).mono ?_; rintro e w13 ⟨rfl, h13⟩; rw [decide_eq_true (rfl : ts = ts)]; have T13 := Lib.hid (T12.out.below h13); clear h13))
          go_ret
          exact ⟨by first | rfl | exact pret_bool (by cases b <;> rfl), T13.out.b⟩
  | some i =>
    have hf := HF.out
    unfold FindOut at hf
    rw [ha] at hf
    obtain ⟨rfl, e, he, hoe⟩ := hf
    have hin : i < n := by
      have := (List.getElem?_eq_some_iff.1 he).1
      have := HNM.out.1
      omega
    obtain ⟨g, o, y2, e2, hA2, hg, hy2, he2, _, _⟩ := T6.out.lm.row hin
    rw [he] at he2
    cases he2
    cases hA2
    have hcap := T6.out.lm.cap
    have HE := Lib.hid (And.intro he (And.intro hy2 (hoe.ok.below HP.out)))
    clear ha he hy2 hoe hg
    unfold plN
    go_wp2_with fail
    refine wp_hideQ ?_
    intro QQ hQQ
    refine wp_region_quick [some 41, some 42, some 43, some 44, some 45, some 46, some 47, some 48, some 49, some 50, some 51, some 52, some 53, some 54, some 55, some 56, some 57, some 58, some 59, some 60, some 61, some 62, some 63, some 64, some 65, some 66] [isV (.int .i64 (i : Int)), isV (.bool false), isV (.bool false), isV (undef), isV (undef), isV (.bool false), isV (.bool false), isV (.int .i64 (i : Int)), isV (.bool true), isV (.bool true), isV (.int .i64 0), isV (.bool false), isV (.bool false), isV (evV y), rowOneE 30 w6.heap.size (evC y), oneNV w6.heap.size y e, isV (.slice (some ⟨g, o, none⟩) n c2), isV (.int .i64 (i : Int)), isV (.int .i64 (i : Int)), isV (.int .i64 ((i : Int) + 1)), isV (.slice (some ⟨g, o + i * 4, none⟩) 1 (c2 - i)), isV (.bool true), isV (.bool false), isV (.bool false), isV (.bool false), isV (.bool false)] 26 (by kernel_rfl) rfl rfl rfl (by kernel_rfl) (by simp [isV.st, rowOneE.st, oneNV.st]) ?_ ?_
    · intro hq rz hz
      match rz, hz with
      | 0, _ =>
        refine StepL.val rfl [] (by decide +kernel) ?_
        intro v wx hR hd
        exact ⟨wanted_plain rfl _, _, _, x_move rfl (fill_off rfl rfl), hR, Below.refl _ _, rfl⟩
      | 1, _ =>
        refine StepL.val rfl [0] (by decide +kernel) ?_
        intro v wx hR hd
        have h0 : v 0 = _ := hd 0 (by simp)
        exact ⟨wanted_plain rfl _, _, _, x_bin rfl (hq.at_ rfl h0) rfl (r_lss (decide_eq_false (by omega))), hR, Below.refl _ _, rfl⟩
      | 2, _ =>
        refine StepL.val rfl [1] (by decide +kernel) ?_
        intro v wx hR hd
        have h1 : v 1 = _ := hd 1 (by simp)
        exact ⟨wanted_plain rfl _, _, _, x_move rfl (hq.at_ rfl h1), hR, Below.refl _ _, rfl⟩
      | 3, _ =>
        refine StepL.skip rfl [2] (by decide +kernel) ?_
        intro v wx hR hd
        have h2 : v 2 = _ := hd 2 (by simp)
        exact ⟨hq.no rfl rfl rfl h2 rfl, Below.refl _ _, rfl⟩
      | 4, _ =>
        refine StepL.skip rfl [2] (by decide +kernel) ?_
        intro v wx hR hd
        have h2 : v 2 = _ := hd 2 (by simp)
        exact ⟨hq.no rfl rfl rfl h2 rfl, Below.refl _ _, rfl⟩
      | 5, _ =>
        refine StepL.val rfl [2, 4] (by decide +kernel) ?_
        intro v wx hR hd
        have h2 : v 2 = _ := hd 2 (by simp)
        have h4 : v 4 = _ := hd 4 (by simp)
        exact ⟨wanted_plain rfl _, _, _, x_pick_no rfl (hq.at_ rfl h2) rfl, hR, Below.refl _ _, rfl⟩
      | 6, _ =>
        refine StepL.val rfl [5] (by decide +kernel) ?_
        intro v wx hR hd
        have h5 : v 5 = _ := hd 5 (by simp)
        exact ⟨wanted_plain rfl _, _, _, x_move rfl (hq.at_ rfl h5), hR, Below.refl _ _, rfl⟩
      | 7, _ =>
        refine StepL.val rfl [6] (by decide +kernel) ?_
        intro v wx hR hd
        have h6 : v 6 = _ := hd 6 (by simp)
        exact ⟨hq.yes rfl rfl rfl h6, _, _, x_move rfl (fill_off rfl rfl), hR, Below.refl _ _, rfl⟩
      | 8, _ =>
        refine StepL.val rfl [6, 7] (by decide +kernel) ?_
        intro v wx hR hd
        have h6 : v 6 = _ := hd 6 (by simp)
        have h7 : v 7 = _ := hd 7 (by simp)
        exact ⟨hq.yes rfl rfl rfl h6, _, _, x_bin rfl (hq.at_ rfl h7) rfl (r_geq (decide_eq_true (by omega))), hR, Below.refl _ _, rfl⟩
      | 9, _ =>
        refine StepL.val rfl [6, 8] (by decide +kernel) ?_
        intro v wx hR hd
        have h6 : v 6 = _ := hd 6 (by simp)
        have h8 : v 8 = _ := hd 8 (by simp)
        exact ⟨hq.yes rfl rfl rfl h6, _, _, x_move rfl (hq.at_ rfl h8), hR, Below.refl _ _, rfl⟩
      | 10, _ =>
        refine StepL.val rfl [9] (by decide +kernel) ?_
        intro v wx hR hd
        have h9 : v 9 = _ := hd 9 (by simp)
        exact ⟨hq.yes rfl rfl rfl h9, _, _, x_move rfl (fill_off rfl rfl), hR, Below.refl _ _, rfl⟩
      | 11, _ =>
        refine StepL.val rfl [9, 10] (by decide +kernel) ?_
        intro v wx hR hd
        have h9 : v 9 = _ := hd 9 (by simp)
        have h10 : v 10 = _ := hd 10 (by simp)
        exact ⟨hq.yes rfl rfl rfl h9, _, _, x_bin rfl (hq.at_ rfl h10) rfl (r_neq (by simp)), hR, Below.refl _ _, rfl⟩
      | 12, _ =>
        refine StepL.val rfl [9, 11] (by decide +kernel) ?_
        intro v wx hR hd
        have h9 : v 9 = _ := hd 9 (by simp)
        have h11 : v 11 = _ := hd 11 (by simp)
        exact ⟨hq.yes rfl rfl rfl h9, _, _, x_move rfl (hq.at_ rfl h11), hR, Below.refl _ _, rfl⟩
      | 13, _ =>
        refine StepL.val rfl [12] (by decide +kernel) ?_
        intro v wx hR hd
        have h12 : v 12 = _ := hd 12 (by simp)
        exact ⟨hq.yes rfl rfl rfl h12, xe_ex (x_load rfl (fill_off rfl rfl) (r_loadR (cs := evC y) (by kernel_rfl) (range_ev (blk_range HB.out) hR))) ⟨hR, Below.refl _ _, rfl⟩⟩
      | 14, _ =>
        refine StepL.val rfl [12, 13] (by decide +kernel) ?_
        intro v wx hR hd
        have h12 : v 12 = _ := hd 12 (by simp)
        have h13 : v 13 = _ := hd 13 (by simp)
        have hb := pnew wx (.cells (evC y).toArray 30)
        exact ⟨hq.yes rfl rfl rfl h12, xe_ex (x_slice rfl (pairs_1 (hq.at_ rfl h13)) (slice_ev wx y)) ⟨hR.trans (hb.mono hR.size), hb, _, rfl, hR.size, Blk.new wx 30 (evC y)⟩⟩
      | 15, _ =>
        refine StepL.call rfl [12, 14] (by decide +kernel) ?_
        intro v wx hR hd
        have h12 : v 12 = _ := hd 12 (by simp)
        obtain ⟨p14, h14, hp14, hk14⟩ : rowOneE 30 w6.heap.size (evC y) (v 14) wx := hd 14 (by simp)
        refine ⟨hq.yes rfl rfl rfl h12, 11, _, _, x_call rfl rfl (args_1 (hq.at_ rfl h14)) (by kernel_rfl) rfl, ?_⟩
        refine (of12_any wx _ 1 1 [y] [e] (ein_blk hk14 (HE.out.2.2.below hR)) (by omega)).mono ?_
        rintro en w' ⟨B, d, rfl, h1, hW⟩
        exact ⟨_, rfl, hR.trans (hW.mono hR.size), hW, B, d, rfl, h1⟩
      | 16, _ =>
        refine StepL.val rfl [12] (by decide +kernel) ?_
        intro v wx hR hd
        have h12 : v 12 = _ := hd 12 (by simp)
        exact ⟨hq.yes rfl rfl rfl h12, _, _, x_move rfl (fill_off rfl rfl), hR, Below.refl _ _, rfl⟩
      | 17, _ =>
        refine StepL.val rfl [12] (by decide +kernel) ?_
        intro v wx hR hd
        have h12 : v 12 = _ := hd 12 (by simp)
        exact ⟨hq.yes rfl rfl rfl h12, _, _, x_move rfl (fill_off rfl rfl), hR, Below.refl _ _, rfl⟩
      | 18, _ =>
        refine StepL.val rfl [12] (by decide +kernel) ?_
        intro v wx hR hd
        have h12 : v 12 = _ := hd 12 (by simp)
        exact ⟨hq.yes rfl rfl rfl h12, _, _, x_move rfl (fill_off rfl rfl), hR, Below.refl _ _, rfl⟩
      | 19, _ =>
        refine StepL.val rfl [12, 18] (by decide +kernel) ?_
        intro v wx hR hd
        have h12 : v 12 = _ := hd 12 (by simp)
        have h18 : v 18 = _ := hd 18 (by simp)
        exact ⟨hq.yes rfl rfl rfl h12, _, _, x_bin rfl (hq.at_ rfl h18) rfl (r_add rfl (by omega) (by omega)), hR, Below.refl _ _, rfl⟩
      | 20, _ =>
        refine StepL.val rfl [12, 16, 17, 19] (by decide +kernel) ?_
        intro v wx hR hd
        have h12 : v 12 = _ := hd 12 (by simp)
        have h16 : v 16 = _ := hd 16 (by simp)
        have h17 : v 17 = _ := hd 17 (by simp)
        have h19 : v 19 = _ := hd 19 (by simp)
        exact ⟨hq.yes rfl rfl rfl h12, _, _, x_sub_one (size := 4) rfl (by kernel_rfl) (by kernel_rfl) (hq.at_ rfl h16) (hq.at_ rfl h17) (hq.at_ rfl h19) (by omega), hR, Below.refl _ _, rfl⟩
      | 21, _ =>
        refine StepL.call rfl [12, 15, 20] (by decide +kernel) ?_
        intro v wx hR hd
        have h12 : v 12 = _ := hd 12 (by simp)
        obtain ⟨P15, c15, h15, ho15⟩ : oneNV w6.heap.size y e (v 15) wx := hd 15 (by simp)
        have h20 : v 20 = _ := hd 20 (by simp)
        refine ⟨hq.yes rfl rfl rfl h12, 10, _, _, x_call rfl rfl (args_2 (hq.at_ rfl h15) (hq.at_ rfl h20)) (by kernel_rfl) rfl, ?_⟩
        refine (rsame12_any wx _ 1 _ [y] [e] ho15 _ 1 _ [y2] [e] (ein_at (T6.out.lm.below hR) hin HE.out.2.1 HE.out.1)).mono ?_
        rintro en w' ⟨rfl, hW⟩
        exact ⟨.bool true, by simp, hR.trans (hW.mono hR.size), hW, rfl⟩
      | 22, _ =>
        refine StepL.val rfl [12, 21] (by decide +kernel) ?_
        intro v wx hR hd
        have h12 : v 12 = _ := hd 12 (by simp)
        have h21 : v 21 = _ := hd 21 (by simp)
        exact ⟨hq.yes rfl rfl rfl h12, _, _, x_un rfl (hq.at_ rfl h21) (r_not rfl), hR, Below.refl _ _, rfl⟩
      | 23, _ =>
        refine StepL.val rfl [9, 12, 22] (by decide +kernel) ?_
        intro v wx hR hd
        have h9 : v 9 = _ := hd 9 (by simp)
        have h12 : v 12 = _ := hd 12 (by simp)
        have h22 : v 22 = _ := hd 22 (by simp)
        exact ⟨hq.yes rfl rfl rfl h9, _, _, x_pick_no rfl (hq.at_ rfl h12) (hq.at_ rfl h22), hR, Below.refl _ _, rfl⟩
      | 24, _ =>
        refine StepL.val rfl [6, 9, 23] (by decide +kernel) ?_
        intro v wx hR hd
        have h6 : v 6 = _ := hd 6 (by simp)
        have h9 : v 9 = _ := hd 9 (by simp)
        have h23 : v 23 = _ := hd 23 (by simp)
        exact ⟨hq.yes rfl rfl rfl h6, _, _, x_pick_yes rfl (hq.at_ rfl h9) (hq.at_ rfl h23), hR, Below.refl _ _, rfl⟩
      | 25, _ =>
        refine StepL.val rfl [6, 24] (by decide +kernel) ?_
        intro v wx hR hd
        have h6 : v 6 = _ := hd 6 (by simp)
        have h24 : v 24 = _ := hd 24 (by simp)
        exact ⟨wanted_plain rfl _, _, _, x_pick_no rfl (hq.at_ rfl h6) (hq.at_ rfl h24), hR, Below.refl _ _, rfl⟩
      | rz + 26, h => omega
    · intro v wx hR hV
      have h25 : v 25 = _ := hV 25 (by omega)
      simp only [fillR, Act.put, List.setIfInBounds_toArray, List.set_cons_zero, List.set_cons_succ, h25]
      clear h25
      have T7 := Lib.hid (T6.out.below hR)
      clear hV hR
      go_wp2_with fail
      refine (digs_any Ks wx T7.out.roots A1 n c1 X ts T7.out.l (by omega)).mono ?_
      rintro en w7 ⟨v7, rfl, o7, h7⟩
      obtain ⟨D, dc, rfl⟩ := own_slice o7
      have T8 := Lib.hid (T7.out.below h7)
      have HD := Lib.hid o7
      clear o7 h7
      go_wp2_with fail
      go_loopw [14, 15, 17] (fun u14 u15 iv wr => ∃ i : Nat, i ≤ n ∧ u14 = .int .i64 (filesE (ts.take i) : Nat) ∧ u15 = .int .i64 (sizeE (ts.take i) : Nat) ∧ iv = .int .i64 i ∧ Hid (Below w7.heap.size w7 wr)) (fun _ _ iv _ => n - (intOf iv).toNat)
      case atStart => exact ⟨0, by omega, rfl, rfl, rfl, Lib.hid (Below.refl _ _)⟩
      case round =>
        obtain ⟨i, hi, rfl, rfl, rfl, HW⟩ := hrel
        by_cases hlt : i < n
        · obtain ⟨g, o, x, e, hA2, hg, hx, he, hok, hcl⟩ := (T8.out.lm.below HW.out).row hlt
          obtain ⟨gd, dc2, hDv, hdc⟩ := digs_cells HD.out (by omega)
          cases hA2
          cases hDv
          obtain ⟨dg, hdg⟩ : ∃ d, sha Ks e.data = d := ⟨_, rfl⟩
          have hls := sha_length Ks e.data
          have hd0 := range_ev32 (hdc i e he) HW.out
          rw [hdg] at hls hd0
          have HG := Lib.hid hdg
          have q1 : wr.cell? ⟨g, o + i * 4 + 1, none⟩ = some (.int .i64 x.k) := hcl 1 _ rfl
          have q3 : wr.cell? ⟨g, o + i * 4 + 3, none⟩ = some (.slice x.DA x.dn x.dc) := hcl 3 _ rfl
          have HDA := Lib.hid (And.intro (T8.out.roots.below HW.out T8.out.roots.pos) (And.intro hok.data hok.small.data))
          have HN := Lib.hid (And.intro (files_next he) (size_next he))
          have hs1 := (HS.out i).1
          have hs2 := (HS.out i).2
          have hdn : x.dn ≤ 1000000 := by have := hok.small.data; rw [hok.data.len] at this; exact this
          have HKK := Lib.hid (And.intro hok.kind hok.data.len)
          have b0 : (0 : Int) ≤ (i : Int) := by omega
          have b1 : (i : Int) < (n : Int) := by omega
          obtain ⟨F, hF⟩ : ∃ F, F = filesE (ts.take i) := ⟨_, rfl⟩
          obtain ⟨Z, hZ⟩ : ∃ Z, Z = sizeE (ts.take i) := ⟨_, rfl⟩
          rw [← hF] at hs1 HN
          rw [← hZ] at hs2 HN
          rw [← hF, ← hZ]
          clear hx he hok hcl hg hdc hF hZ hdg
          have hw1 : wrap64 ((F : Int) + 1) = (F : Int) + 1 := by unfold wrap64; omega
          have hw2 : wrap64 ((Z : Int) + (x.dn : Int)) = (Z : Int) + (x.dn : Int) := by unfold wrap64; omega
          by_cases hk : x.k = 0
          · have HTS : Hid (filesE (ts.take (i + 1)) = F + 1 ∧ sizeE (ts.take (i + 1)) = Z + x.dn) := Lib.hid (by rw [HN.out.1, HN.out.2, HKK.out.1, if_pos hk, if_pos hk, HKK.out.2]; exact ⟨rfl, rfl⟩)
            go_wp2_with fail
            refine wp_hideQ ?_
            intro QQ hQQ
            refine wp_region_quick [some 96, some 97, some 98, some 99, some 100, some 101, some 102, some 103, some 104, some 105, some 106, some 107] [isV (.slice (some ⟨gd, 0, none⟩) n dc), isV (.int .i64 (i : Int)), isV (.pointer (some ⟨gd, i * 32, none⟩)), isV (.agg (Vb dg).toArray), isV (.slice (some ⟨g, o, none⟩) n c2), isV (.int .i64 (i : Int)), isV (.pointer (some ⟨g, o + i * 4, none⟩)), isV (.pointer (some ⟨g, o + i * 4 + 3, none⟩)), isV (.slice x.DA x.dn x.dc), rowOneE 28 wr.heap.size [.slice x.DA x.dn x.dc], isV (.agg (Vb dg).toArray), isV (.bool false)] 12 (by kernel_rfl) rfl rfl rfl (by kernel_rfl) (by simp [isV.st, rowOneE.st]) ?_ ?_
            · intro hq rz hz
              match rz, hz with
              | 0, _ =>
                refine StepL.val rfl [] (by decide +kernel) ?_
                intro v wx hR hd
                exact ⟨wanted_plain rfl _, _, _, x_move rfl (fill_off rfl rfl), hR, Below.refl _ _, rfl⟩
              | 1, _ =>
                refine StepL.val rfl [] (by decide +kernel) ?_
                intro v wx hR hd
                exact ⟨wanted_plain rfl _, _, _, x_move rfl (fill_off rfl rfl), hR, Below.refl _ _, rfl⟩
              | 2, _ =>
                refine StepL.val rfl [0, 1] (by decide +kernel) ?_
                intro v wx hR hd
                have h0 : v 0 = _ := hd 0 (by simp)
                have h1 : v 1 = _ := hd 1 (by simp)
                exact ⟨wanted_plain rfl _, _, _, x_index rfl (hq.at_ rfl h0) (hq.at_ rfl h1) (r_index (e := 40) (size := 32) (by kernel_rfl) (by kernel_rfl) (by omega) (by omega) (by first | omega | simp)), hR, Below.refl _ _, rfl⟩
              | 3, _ =>
                refine StepL.val rfl [2] (by decide +kernel) ?_
                intro v wx hR hd
                have h2 : v 2 = _ := hd 2 (by simp)
                exact ⟨wanted_plain rfl _, xe_ex (x_load rfl (hq.at_ rfl h2) (r_loadR (cs := Vb dg) (by rw [Vb_length, hls]; kernel_rfl) (range_ev32 hd0 hR))) ⟨hR, Below.refl _ _, rfl⟩⟩
              | 4, _ =>
                refine StepL.val rfl [] (by decide +kernel) ?_
                intro v wx hR hd
                exact ⟨wanted_plain rfl _, _, _, x_move rfl (fill_off rfl rfl), hR, Below.refl _ _, rfl⟩
              | 5, _ =>
                refine StepL.val rfl [] (by decide +kernel) ?_
                intro v wx hR hd
                exact ⟨wanted_plain rfl _, _, _, x_move rfl (fill_off rfl rfl), hR, Below.refl _ _, rfl⟩
              | 6, _ =>
                refine StepL.val rfl [4, 5] (by decide +kernel) ?_
                intro v wx hR hd
                have h4 : v 4 = _ := hd 4 (by simp)
                have h5 : v 5 = _ := hd 5 (by simp)
                exact ⟨wanted_plain rfl _, _, _, x_index rfl (hq.at_ rfl h4) (hq.at_ rfl h5) (r_index (e := 39) (size := 4) (by kernel_rfl) (by kernel_rfl) (by omega) (by omega) (by first | omega | simp)), hR, Below.refl _ _, rfl⟩
              | 7, _ =>
                refine StepL.val rfl [6] (by decide +kernel) ?_
                intro v wx hR hd
                have h6 : v 6 = _ := hd 6 (by simp)
                exact ⟨wanted_plain rfl _, _, _, x_field rfl (hq.at_ rfl h6) (r_field (off := 3) (by kernel_rfl)), hR, Below.refl _ _, rfl⟩
              | 8, _ =>
                refine StepL.val rfl [7] (by decide +kernel) ?_
                intro v wx hR hd
                have h7 : v 7 = _ := hd 7 (by simp)
                exact ⟨wanted_plain rfl _, _, _, x_load rfl (hq.at_ rfl h7) (r_load (by kernel_rfl) (pcell_below q3 hR)), hR, Below.refl _ _, rfl⟩
              | 9, _ =>
                refine StepL.val rfl [8] (by decide +kernel) ?_
                intro v wx hR hd
                have h8 : v 8 = _ := hd 8 (by simp)
                have hb := pnew wx (.cells #[.slice x.DA x.dn x.dc] 28)
                exact ⟨wanted_plain rfl _, xe_ex (x_slice rfl (pairs_1 (hq.at_ rfl h8)) (slice_bs wx _ _ _)) ⟨hR.trans (hb.mono hR.size), hb, _, rfl, hR.size, Blk.new wx 28 [.slice x.DA x.dn x.dc]⟩⟩
              | 10, _ =>
                refine StepL.call rfl [9] (by decide +kernel) ?_
                intro v wx hR hd
                obtain ⟨p9, h9, hp9, hk9⟩ : rowOneE 28 wr.heap.size [.slice x.DA x.dn x.dc] (v 9) wx := hd 9 (by simp)
                refine ⟨wanted_plain rfl _, 13, _, _, x_call rfl rfl (args_1 (hq.at_ rfl h9)) (by kernel_rfl) rfl, ?_⟩
                refine (of_any Ks wx wx.heap.size _ 1 1 [e.data] (HDA.out.1.below hR HDA.out.1.pos) (txts_one hk9 (HDA.out.2.1.below hR) (Nat.le_refl _)) (by omega) (by have := HDA.out.2.2; simp; omega)).mono ?_
                rintro en w' ⟨rfl, hW⟩
                exact ⟨.agg (Vb dg).toArray, by rw [show [e.data].flatten = e.data by simp, HG.out], hR.trans (hW.mono hR.size), hW, rfl⟩
              | 11, _ =>
                refine StepL.val rfl [3, 10] (by decide +kernel) ?_
                intro v wx hR hd
                have h3 : v 3 = _ := hd 3 (by simp)
                have h10 : v 10 = _ := hd 10 (by simp)
                exact ⟨wanted_plain rfl _, _, _, x_bin rfl (hq.at_ rfl h3) (hq.at_ rfl h10) (r_neq32 dg hls _), hR, Below.refl _ _, rfl⟩
              | rz + 12, h => omega
            · intro v wx hR hV
              have h11 : v 11 = _ := hV 11 (by omega)
              simp only [fillR, Act.put, List.setIfInBounds_toArray, List.set_cons_zero, List.set_cons_succ, h11]
              have HR := Lib.hid (HW.out.trans (hR.mono HW.out.size))
              clear hV hR h11 q1 q3 hd0
              go_wp2_with fail
              exact ⟨⟨i + 1, by omega, by rw [HTS.out.1]; go_num, by rw [HTS.out.2]; go_num, by go_num, HR⟩, by simp [intOf]; omega⟩
          · have HTS : Hid (filesE (ts.take (i + 1)) = F ∧ sizeE (ts.take (i + 1)) = Z) := Lib.hid (by rw [HN.out.1, HN.out.2, HKK.out.1, if_neg hk, if_neg hk]; exact ⟨rfl, rfl⟩)
            go_wp2_with fail
            refine wp_hideQ ?_
            intro QQ hQQ
            refine wp_region_quick [some 96, some 97, some 98, some 99, some 100, some 101, some 102, some 103, some 104, some 105, some 106, some 107] [isV (.slice (some ⟨gd, 0, none⟩) n dc), isV (.int .i64 (i : Int)), isV (.pointer (some ⟨gd, i * 32, none⟩)), isV (.agg (Vb dg).toArray), isV (.slice (some ⟨g, o, none⟩) n c2), isV (.int .i64 (i : Int)), isV (.pointer (some ⟨g, o + i * 4, none⟩)), isV (.pointer (some ⟨g, o + i * 4 + 3, none⟩)), isV (.slice x.DA x.dn x.dc), rowOneE 28 wr.heap.size [.slice x.DA x.dn x.dc], isV (.agg (Vb dg).toArray), isV (.bool false)] 12 (by kernel_rfl) rfl rfl rfl (by kernel_rfl) (by simp [isV.st, rowOneE.st]) ?_ ?_
            · intro hq rz hz
              match rz, hz with
              | 0, _ =>
                refine StepL.val rfl [] (by decide +kernel) ?_
                intro v wx hR hd
                exact ⟨wanted_plain rfl _, _, _, x_move rfl (fill_off rfl rfl), hR, Below.refl _ _, rfl⟩
              | 1, _ =>
                refine StepL.val rfl [] (by decide +kernel) ?_
                intro v wx hR hd
                exact ⟨wanted_plain rfl _, _, _, x_move rfl (fill_off rfl rfl), hR, Below.refl _ _, rfl⟩
              | 2, _ =>
                refine StepL.val rfl [0, 1] (by decide +kernel) ?_
                intro v wx hR hd
                have h0 : v 0 = _ := hd 0 (by simp)
                have h1 : v 1 = _ := hd 1 (by simp)
                exact ⟨wanted_plain rfl _, _, _, x_index rfl (hq.at_ rfl h0) (hq.at_ rfl h1) (r_index (e := 40) (size := 32) (by kernel_rfl) (by kernel_rfl) (by omega) (by omega) (by first | omega | simp)), hR, Below.refl _ _, rfl⟩
              | 3, _ =>
                refine StepL.val rfl [2] (by decide +kernel) ?_
                intro v wx hR hd
                have h2 : v 2 = _ := hd 2 (by simp)
                exact ⟨wanted_plain rfl _, xe_ex (x_load rfl (hq.at_ rfl h2) (r_loadR (cs := Vb dg) (by rw [Vb_length, hls]; kernel_rfl) (range_ev32 hd0 hR))) ⟨hR, Below.refl _ _, rfl⟩⟩
              | 4, _ =>
                refine StepL.val rfl [] (by decide +kernel) ?_
                intro v wx hR hd
                exact ⟨wanted_plain rfl _, _, _, x_move rfl (fill_off rfl rfl), hR, Below.refl _ _, rfl⟩
              | 5, _ =>
                refine StepL.val rfl [] (by decide +kernel) ?_
                intro v wx hR hd
                exact ⟨wanted_plain rfl _, _, _, x_move rfl (fill_off rfl rfl), hR, Below.refl _ _, rfl⟩
              | 6, _ =>
                refine StepL.val rfl [4, 5] (by decide +kernel) ?_
                intro v wx hR hd
                have h4 : v 4 = _ := hd 4 (by simp)
                have h5 : v 5 = _ := hd 5 (by simp)
                exact ⟨wanted_plain rfl _, _, _, x_index rfl (hq.at_ rfl h4) (hq.at_ rfl h5) (r_index (e := 39) (size := 4) (by kernel_rfl) (by kernel_rfl) (by omega) (by omega) (by first | omega | simp)), hR, Below.refl _ _, rfl⟩
              | 7, _ =>
                refine StepL.val rfl [6] (by decide +kernel) ?_
                intro v wx hR hd
                have h6 : v 6 = _ := hd 6 (by simp)
                exact ⟨wanted_plain rfl _, _, _, x_field rfl (hq.at_ rfl h6) (r_field (off := 3) (by kernel_rfl)), hR, Below.refl _ _, rfl⟩
              | 8, _ =>
                refine StepL.val rfl [7] (by decide +kernel) ?_
                intro v wx hR hd
                have h7 : v 7 = _ := hd 7 (by simp)
                exact ⟨wanted_plain rfl _, _, _, x_load rfl (hq.at_ rfl h7) (r_load (by kernel_rfl) (pcell_below q3 hR)), hR, Below.refl _ _, rfl⟩
              | 9, _ =>
                refine StepL.val rfl [8] (by decide +kernel) ?_
                intro v wx hR hd
                have h8 : v 8 = _ := hd 8 (by simp)
                have hb := pnew wx (.cells #[.slice x.DA x.dn x.dc] 28)
                exact ⟨wanted_plain rfl _, xe_ex (x_slice rfl (pairs_1 (hq.at_ rfl h8)) (slice_bs wx _ _ _)) ⟨hR.trans (hb.mono hR.size), hb, _, rfl, hR.size, Blk.new wx 28 [.slice x.DA x.dn x.dc]⟩⟩
              | 10, _ =>
                refine StepL.call rfl [9] (by decide +kernel) ?_
                intro v wx hR hd
                obtain ⟨p9, h9, hp9, hk9⟩ : rowOneE 28 wr.heap.size [.slice x.DA x.dn x.dc] (v 9) wx := hd 9 (by simp)
                refine ⟨wanted_plain rfl _, 13, _, _, x_call rfl rfl (args_1 (hq.at_ rfl h9)) (by kernel_rfl) rfl, ?_⟩
                refine (of_any Ks wx wx.heap.size _ 1 1 [e.data] (HDA.out.1.below hR HDA.out.1.pos) (txts_one hk9 (HDA.out.2.1.below hR) (Nat.le_refl _)) (by omega) (by have := HDA.out.2.2; simp; omega)).mono ?_
                rintro en w' ⟨rfl, hW⟩
                exact ⟨.agg (Vb dg).toArray, by rw [show [e.data].flatten = e.data by simp, HG.out], hR.trans (hW.mono hR.size), hW, rfl⟩
              | 11, _ =>
                refine StepL.val rfl [3, 10] (by decide +kernel) ?_
                intro v wx hR hd
                have h3 : v 3 = _ := hd 3 (by simp)
                have h10 : v 10 = _ := hd 10 (by simp)
                exact ⟨wanted_plain rfl _, _, _, x_bin rfl (hq.at_ rfl h3) (hq.at_ rfl h10) (r_neq32 dg hls _), hR, Below.refl _ _, rfl⟩
              | rz + 12, h => omega
            · intro v wx hR hV
              have h11 : v 11 = _ := hV 11 (by omega)
              simp only [fillR, Act.put, List.setIfInBounds_toArray, List.set_cons_zero, List.set_cons_succ, h11]
              have HR := Lib.hid (HW.out.trans (hR.mono HW.out.size))
              clear hV hR h11 q1 q3 hd0
              go_wp2_with fail
              exact ⟨⟨i + 1, by omega, by rw [HTS.out.1], by rw [HTS.out.2], by go_num, HR⟩, by simp [intOf]; omega⟩
        · obtain rfl : i = n := by omega
          rw [HEN.out]
          obtain ⟨b, hb⟩ : ∃ b, decide (ts = us) = b := ⟨_, rfl⟩
          have HBB := Lib.hid hb
          clear hb
          go_wp2_with fail
          refine (sizes_any wr A1 i c1 X ts (T8.out.l.below HW.out) (by omega)).mono ?_
          rintro en w9 ⟨rfl, h9⟩
          have T9 := Lib.hid (T8.out.below (HW.out.trans (h9.mono HW.out.size)))
          clear h9
          go_wp2_with (first
            | (go_at_call 15; refine (known12_any w9 T9.out.pv).mono ?_; rintro e w10 ⟨rfl, h10⟩; have T10 := Lib.hid (T9.out.below h10); clear h10)
            | (refine (asame_any w10 A1 i c1 X ts T10.out.l B1 m d1 U us T10.out.lx).mono ?_; rintro e w11 ⟨rfl, h11⟩; rw [HBB.out]; have T11 := Lib.hid (T10.out.below h11); clear h11)
            | (refine (rsame12_any w11 _ i c2 Y ts T11.out.lm B2 m d2 V us T11.out.ly).mono ?_; rintro e w12 ⟨rfl, h12⟩; rw [HBB.out]; have T12 := Lib.hid (T11.out.below h12); clear h12)
            | (refine (asame_any w12 A1 i c1 X ts T12.out.l A1 i c1 X ts T12.out.l).mono ?_; rintro e w13 ⟨rfl, h13⟩; rw [decide_eq_true (rfl : ts = ts)]; have T13 := Lib.hid (T12.out.below h13); clear h13))
          go_ret
          exact ⟨by first | rfl | exact pret_bool (by cases b <;> rfl), T13.out.b⟩
end Go.Proofs.YtbckiembnakmhaaDoor
end
