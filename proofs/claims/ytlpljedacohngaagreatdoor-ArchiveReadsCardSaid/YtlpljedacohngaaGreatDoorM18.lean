/-
  Where a link leads, as the document tells it: the plain answer's error. Condition: the list lies in memory.
-/
import Derived.Test.YtlpljedacohngaaGreatDoorM17
import Derived.Test.YtlpljedacohngaaGreatDoorM15
import Derived.Test.YtlpljedacohngaaGreatDoorM13
import Derived.Test.YtlpljedacohngaaGreatDoorM4
section
set_option linter.unusedSimpArgs false
set_option linter.unusedVariables false
set_option maxRecDepth 100000
namespace Go.Proofs.YtlpljedacohngaaGreatDoor
open Go.RowKit

theorem psin_rows {w : World} {A : Option Addr} {n c : Nat} {p : Pa} (h : SIn w A n c p) (h0 : 0 < n) : ∃ g off, A = some ⟨g, off, none⟩ ∧ ∀ (j : Nat) u, (strV p)[j]? = some u → w.cell? ⟨g, off + j, none⟩ = some u := by
  obtain ⟨g, o, hA, _, hc⟩ := h.cells h0
  exact ⟨g, o, hA, fun j u hu => by obtain ⟨t, h1, rfl⟩ := strV_get hu; exact hc j t h1⟩
theorem pstrV_one (p : Pa) : ∀ u ∈ strV p, u.oneCell' = true := by
  intro u hu
  unfold strV at hu
  obtain ⟨t, _, rfl⟩ := List.mem_map.1 hu
  rfl
def pone1 (b0 : Nat) (x : ByteArray) : Value → World → Prop := fun u w => ∃ p, u = .slice (some ⟨p, 0, none⟩) 1 1 ∧ b0 ≤ p ∧ Blk w p 9 [.string x]
theorem pone1.st (b0 : Nat) (x : ByteArray) : StV (pone1 b0 x) := fun _ _ _ ⟨p, h1, h2, h3⟩ hb => ⟨p, h1, h2, h3.below hb h3.lt⟩
theorem slice0_ps (W : World) : (Instr.buildSlice 38 0 #[]).run Tryz.prog W = .ok (.slice (some ⟨W.heap.size, 0, none⟩) 0 0) (W.alloc (.cells #[] 9)) := by kernel_rfl
set_option maxHeartbeats 8000000 in
theorem rlead_any (w : World) (A : Option Addr) (n c : Nat) (p : Pa) (h : SIn w A n c p) (t : ByteArray) :
    Calls Tryz.prog 10 #[.slice A n c, .string t] w fun e w' => ∃ A' n' c', e = .returned (.tuple #[.slice A' n' c', .int .i64 (leadB p t).2]) ∧ Below w.heap.size w w' := by
  have hcap := h.cap
  have hbig := h.big
  have HR := Lib.hid (rright_any w A n c p h)
  have H0 := Lib.hid (And.intro h h.len)
  clear h
  go_enter Tryz.func10, Tryz.ntmps10
  go_wp2_with fail
  refine HR.out.mono ?_
  rintro e w0 ⟨rfl, h0⟩
  have HB0 := Lib.hid h0
  clear h0 HR
  cases hr : rightB p with
  | false =>
    have HF : Hid (leadB p t = ([], 10)) := Lib.hid (by unfold leadB; rw [hr]; rfl)
    clear hr
    go_wp2_with fail
    go_ret2
    rw [HF.out]
    exact ⟨none, 0, 0, rfl, HB0.out⟩
  | true =>
    by_cases h1 : 160 < t.size
    · have HF : Hid (leadB p t = ([], 2)) := Lib.hid (by unfold leadB; rw [hr, if_neg (by simp), if_pos h1])
      clear hr
      go_wp2_with fail
      go_ret2
      rw [HF.out]
      exact ⟨none, 0, 0, rfl, HB0.out⟩
    · have hn8 : n ≤ 8 := by
        have h2 := hr
        unfold rightB at h2
        simp only [Bool.and_eq_true, decide_eq_true_eq] at h2
        rw [← H0.out.2]
        exact h2.1
      have HE0 := Lib.hid (lead_end hr h1)
      clear hr
      have HK := Lib.hid (H0.out.1.below HB0.out)
      go_wp2_with (refine wpList_app (v := .slice (some ⟨w0.heap.size, 0, none⟩) 0 0) (base := w0.heap.size) (n := 0) rfl rfl Tryz.underlying38 str_info rfl (by decide) (strV p) rfl (own_new w0 9 1) rfl (by rw [strV_length, HK.out.len, Nat.mul_one]) (fun h0 => psin_rows (HK.out.below (pnew w0 _)) h0) (pstrV_one _) (by omega) (by decide) (by simp) ?_; intro v9 w1 k1 k2 k3; have H9 := Lib.hid (And.intro k1 k2); clear k1 k2 k3)
      have hb9 : Below w0.heap.size w0 w1 := (pnew w0 (.cells #[] 9)).trans (H9.out.2.below (by simp) (fun b hb => by simp [Value.ownBlock] at hb; omega))
      have ho := H9.out.1
      rw [Nat.zero_add, List.nil_append] at ho
      obtain ⟨P1, c1, rfl, hp1, _⟩ := SIn.of_own (p := p) ho rfl
      have HP1 := Lib.hid (And.intro hp1 (HB0.out.trans (hb9.mono HB0.out.size)))
      clear ho hb9 hp1 H9
      refine (parts_any w1 t (by omega)).mono ?_
      rintro e w2 ⟨LA, lc, rfl, hl, hlf, hlb⟩
      have HB2 := Lib.hid (HP1.out.2.trans (hlb.mono HP1.out.2.size))
      have hp2 := HP1.out.1.below hlb
      obtain ⟨g, o, rfl, hg, _⟩ := hl.cells (by rw [split_length]; omega)
      have hlen := parts_len t
      have hlcap := hl.cap
      have hlbig := hl.big
      cases hq : begP t with
      | false =>
        have h47 : ∀ h : 0 < t.size, ¬ ((t[0]'h).toNat : Int) = 47 := fun h he => by
          have := (begP_iff t).2 ⟨h, by rw [← sgAt_get t 0 h]; exact he⟩
          rw [hq] at this
          cases this
        have h48 : ∀ h : 0 < t.size, (((t[0]'h).toNat : Int) == 47) = false := fun h => by simpa using h47 h
        have hcut := cut_beg hq
        have HE : Hid (leadB p t = (match leadAll p (splitP t) with | some q => (q, 0) | none => ([], 10))) := Lib.hid (by rw [HE0.out, hq, hcut]; rfl)
        obtain ⟨L, hL⟩ : ∃ L, L = splitP t := ⟨_, rfl⟩
        obtain ⟨ln, hln⟩ : ∃ ln, ln = L.length := ⟨_, rfl⟩
        rw [← hL] at HE hl hlen hlcap ⊢
        rw [← hln] at hl hlen hlcap ⊢
        obtain ⟨oo, hoo⟩ : ∃ oo, oo = o := ⟨_, rfl⟩
        rw [← hoo] at hl ⊢
        have HLs := Lib.hid (And.intro hl hln.symm)
        have HP := Lib.hid (And.intro hn8 hp2)
        clear hl hlf hlb hp2 hq hcut hL hln hoo HE0
        by_cases hz : t.size = 0
        · have b0 : ¬ (0 : Int) < (t.size : Int) := by omega
          go_wp2_with fail
          go_loopw [6, 8] (fun pv iv wr => ∃ i m : Nat, ∃ PA pc, i ≤ ln ∧ m ≤ 8 ∧ iv = .int .i64 i ∧ pv = .slice PA m pc ∧ Hid (∃ q : Pa, leadAll p (L.take i) = some q ∧ SIn wr PA m pc q) ∧ Hid (Below w2.heap.size w2 wr)) (fun _ iv _ => ln - (intOf iv).toNat)
          case atStart => exact ⟨0, _, _, _, by omega, HP.out.1, rfl, rfl, Lib.hid ⟨p, rfl, HP.out.2⟩, Lib.hid (Below.refl _ _)⟩
          case round =>
            obtain ⟨i, m, PA, pc, hi, hm, rfl, rfl, HQ, HW⟩ := hrel
            by_cases hlt : i < ln
            · obtain ⟨x, hx⟩ := HLs.out.1.get hlt
              have q0 := pcell_below (HLs.out.1.row i x hx) HW.out
              obtain ⟨q, hq, hs⟩ := HQ.out
              have hn := lead_next hq hx
              have hql := hs.len
              have hcap := hs.cap
              have hbig := hs.big
              have H := Lib.hid (And.intro hs (And.intro hn hql))
              clear hq hs hn hx HQ hql
              have b0 : (0 : Int) ≤ (i : Int) := by omega
              have b1 : (i : Int) < (ln : Int) := by omega
              by_cases d1 : x.data.toList = [46]
              · have e1 := bt_eq d1
                have HS : Hid (leadAll p (L.take (i + 1)) = some q) := Lib.hid (by rw [H.out.2.1]; unfold leadStep; rw [if_pos d1])
                clear d1
                go_wp2_with fail
                exact ⟨⟨i + 1, m, PA, pc, by omega, hm, by go_num, rfl, Lib.hid ⟨q, HS.out, H.out.1⟩, HW⟩, by simp [intOf]; omega⟩
              · have e1 := bt_ne d1
                by_cases d2 : x.data.toList = [46, 46]
                · have e2 := bt_eq d2
                  have hdots := name_dots d2
                  by_cases hm0 : m = 0
                  · have HF : Hid (leadB p t = ([], 10)) := Lib.hid (by
                      have h1 : leadStep q x = none := by
                        unfold leadStep
                        rw [if_neg d1, if_neg (by rw [H.out.2.2]; omega), if_neg (by rw [hdots]; simp)]
                      rw [HE.out, lead_none (H.out.2.1.trans h1)])
                    subst hm0
                    clear d1 d2 hdots
                    go_wp2_with fail
                    (try rw [Exit.noGoto_ret])
                    go_ret2
                    rw [HF.out]
                    exact ⟨none, 0, 0, rfl, HB2.out.trans (HW.out.mono HB2.out.size)⟩
                  · obtain ⟨k, rfl⟩ : ∃ k, m = k + 1 := ⟨m - 1, by omega⟩
                    have HS : Hid (leadAll p (L.take (i + 1)) = some (q.take k)) := Lib.hid (by
                      rw [H.out.2.1]
                      unfold leadStep
                      rw [if_neg d1, if_pos ⟨d2, by rw [H.out.2.2]; omega⟩, H.out.2.2]
                      rfl)
                    have HK := Lib.hid (H.out.1.take (k := k) (c' := pc) (by omega) (by omega) (Nat.le_refl _))
                    have b2 : ¬ ((k + 1 : Nat) : Int) = 0 := by omega
                    have b3 : (0 : Int) ≤ (k : Int) := by omega
                    have b4 : (k : Int) ≤ ((k + 1 : Nat) : Int) := by omega
                    have b5 : (k : Int) ≤ (pc : Int) := by omega
                    clear d1 d2 hdots
                    go_wp2_with (refine wpList_app (v := .slice (some ⟨wr.heap.size, 0, none⟩) 0 0) (base := wr.heap.size) (n := 0) rfl rfl Tryz.underlying38 str_info rfl (by decide) (strV (q.take k)) rfl (own_new wr 9 1) rfl (by rw [strV_length, HK.out.len, Nat.mul_one]) (fun h0 => psin_rows (HK.out.below (pnew wr _)) h0) (pstrV_one _) (by omega) (by decide) (by simp) ?_; intro v9 w9 k1 k2 k3; have H9 := Lib.hid (And.intro k1 k2); clear k1 k2 k3)
                    have hb9 : Below wr.heap.size wr w9 := (pnew wr (.cells #[] 9)).trans (H9.out.2.below (by simp) (fun b hb => by simp [Value.ownBlock] at hb; omega))
                    have ho := H9.out.1
                    rw [Nat.zero_add, List.nil_append] at ho
                    obtain ⟨A9, c9, rfl, h9, _⟩ := SIn.of_own (p := q.take k) ho rfl
                    have HN := Lib.hid (And.intro h9 (HW.out.trans (hb9.mono HW.out.size)))
                    clear ho hb9 h9
                    exact ⟨⟨i + 1, k, A9, c9, by omega, by omega, by go_num, rfl, Lib.hid ⟨q.take k, HS.out, HN.out.1⟩, Lib.hid HN.out.2⟩, by simp [intOf]; omega⟩
                · have e2 := bt_ne d2
                  have hstep : leadStep q x = if pnameB x = true ∧ q.length < 8 then some (q ++ [x]) else none := by
                    unfold leadStep
                    rw [if_neg d1, if_neg (fun h => d2 h.1)]
                  have HST := Lib.hid (H.out.2.1.trans hstep)
                  clear d1 d2 hstep
                  go_wp2_with fail
                  refine (rname_any wr x).mono ?_
                  rintro e w3 ⟨rfl, h3⟩
                  have q3 := pcell_below q0 h3
                  have H3 := Lib.hid (And.intro (H.out.1.below h3) (HW.out.trans (h3.mono HW.out.size)))
                  clear h3 q0
                  cases hpn : pnameB x with
                  | false =>
                    have HF : Hid (leadB p t = ([], 10)) := Lib.hid (by
                      have h1 := HST.out
                      rw [hpn, if_neg (by simp)] at h1
                      rw [HE.out, lead_none h1])
                    clear hpn
                    go_wp2_with fail
                    (try rw [Exit.noGoto_ret])
                    go_ret2
                    rw [HF.out]
                    exact ⟨none, 0, 0, rfl, HB2.out.trans (H3.out.2.mono HB2.out.size)⟩
                  | true =>
                    by_cases h8 : m = 8
                    · have HF : Hid (leadB p t = ([], 10)) := Lib.hid (by
                        have h1 := HST.out
                        rw [if_neg (by rw [H.out.2.2]; omega)] at h1
                        rw [HE.out, lead_none h1])
                      subst h8
                      clear hpn
                      go_wp2_with fail
                      (try rw [Exit.noGoto_ret])
                      go_ret2
                      rw [HF.out]
                      exact ⟨none, 0, 0, rfl, HB2.out.trans (H3.out.2.mono HB2.out.size)⟩
                    · have HS : Hid (leadAll p (L.take (i + 1)) = some (q ++ [x])) := Lib.hid (by rw [HST.out, if_pos ⟨hpn, by rw [H.out.2.2]; omega⟩])
                      have b6 : ¬ (m : Int) = 8 := by omega
                      clear hpn
                      go_wp2_with fail
                      refine wp_hideQ ?_
                      intro QQ hQQ
                      refine wp_region_quickT [some 36, some 37, some 38, some 39, some 40, some 41, some 42, some 43] [noV 9 w3.heap.size, isV (.slice PA m pc), ownSV w3.heap.size 9 1 m (strV q), isV (.slice (some ⟨g, oo, none⟩) ln lc), isV (.int .i64 (i : Int)), isV (.pointer (some ⟨g, oo + i, none⟩)), isV (.string x), pone1 w3.heap.size x] 8 10 (by kernel_rfl) rfl rfl rfl rfl (by kernel_rfl) (by kernel_rfl) (by simp [isV.st, noV.st, ownSV.st, pone1.st]) ?_ ?_
                      · intro hq rz hz
                        match rz, hz with
                        | 0, _ =>
                          refine StepL.val rfl [] (by decide +kernel) ?_
                          intro v wx hR hd
                          have hb := pnew wx (.cells #[] 9)
                          exact ⟨wanted_plain rfl _, xe_ex (x_slice (qs := #[]) rfl (by simp) (slice0_ps wx)) ⟨hR.trans (hb.mono hR.size), hb, _, rfl, hR.size, Blk.new wx 9 []⟩⟩
                        | 1, _ =>
                          refine StepL.val rfl [] (by decide +kernel) ?_
                          intro v wx hR hd
                          exact ⟨wanted_plain rfl _, _, _, x_move rfl (fill_off rfl rfl), hR, Below.refl _ _, rfl⟩
                        | 2, _ =>
                          refine StepL.val rfl [0, 1] (by decide +kernel) ?_
                          intro v wx hR hd
                          obtain ⟨p0, h0, hp0, hk0⟩ : (noV 9 w3.heap.size) (v 0) wx := hd 0 (by simp)
                          have h1 : v 1 = _ := hd 1 (by simp)
                          exact ⟨wanted_plain rfl _, xe_app_zeroG (N := w3.heap.size) rfl Tryz.underlying38 str_info rfl (by decide) (hq.at_ rfl h0) hp0 hk0 (hq.at_ rfl h1) (strV q) (by rw [strV_length, H3.out.1.len, Nat.mul_one]) (fun h0 => psin_rows (H3.out.1.below hR) h0) (pstrV_one _) (by omega) (by decide) hR.size (fun R' c' w' k1 k2 => ⟨hR.trans (k2.mono hR.size), k2, _, _, rfl, k1⟩)⟩
                        | 3, _ =>
                          refine StepL.val rfl [] (by decide +kernel) ?_
                          intro v wx hR hd
                          exact ⟨wanted_plain rfl _, _, _, x_move rfl (fill_off rfl rfl), hR, Below.refl _ _, rfl⟩
                        | 4, _ =>
                          refine StepL.val rfl [] (by decide +kernel) ?_
                          intro v wx hR hd
                          exact ⟨wanted_plain rfl _, _, _, x_move rfl (fill_off rfl rfl), hR, Below.refl _ _, rfl⟩
                        | 5, _ =>
                          refine StepL.val rfl [3, 4] (by decide +kernel) ?_
                          intro v wx hR hd
                          have h3 : v 3 = _ := hd 3 (by simp)
                          have h4 : v 4 = _ := hd 4 (by simp)
                          exact ⟨wanted_plain rfl _, _, _, x_index rfl (hq.at_ rfl h3) (hq.at_ rfl h4) (r_index (e := 9) (size := 1) (by kernel_rfl) (by kernel_rfl) (by omega) (by omega) (by simp)), hR, Below.refl _ _, rfl⟩
                        | 6, _ =>
                          refine StepL.val rfl [5] (by decide +kernel) ?_
                          intro v wx hR hd
                          have h5 : v 5 = _ := hd 5 (by simp)
                          exact ⟨wanted_plain rfl _, _, _, x_load rfl (hq.at_ rfl h5) (r_load (by kernel_rfl) (pcell_below q3 hR)), hR, Below.refl _ _, rfl⟩
                        | 7, _ =>
                          refine StepL.val rfl [6] (by decide +kernel) ?_
                          intro v wx hR hd
                          have h6 : v 6 = _ := hd 6 (by simp)
                          have hb := pnew wx (.cells #[.string x] 9)
                          exact ⟨wanted_plain rfl _, xe_ex (x_slice rfl (pairs_1 (hq.at_ rfl h6)) (build_one wx x)) ⟨hR.trans (hb.mono hR.size), hb, _, rfl, hR.size, Blk.new wx 9 [.string x]⟩⟩
                        | rz + 8, h => omega
                      · intro v wx hR hV
                        obtain ⟨R2, c2, h2, ho2⟩ : ownSV w3.heap.size 9 1 m (strV q) (v 2) wx := hV 2 (by omega)
                        obtain ⟨p7, h7, hp7, hk7⟩ : pone1 w3.heap.size x (v 7) wx := hV 7 (by omega)
                        simp only [fillR, Act.put, List.setIfInBounds_toArray, List.set_cons_zero, List.set_cons_succ, List.drop_succ_cons, List.drop_zero, h2, h7]
                        refine wpList_app (v := .slice R2 m c2) (base := w3.heap.size) (n := m) rfl rfl Tryz.underlying38 str_info rfl (by decide) [.string x] rfl ho2 rfl rfl (fun _ => ⟨_, _, rfl, fun j u hu => by rw [Nat.zero_add]; exact (hk7.cell j).trans hu⟩) (by simp [Value.oneCell']) (by omega) (by decide) hR.size ?_
                        intro v9 w4 k1 k2 k3
                        have hb4 : Below w3.heap.size w3 w4 := hR.trans (k2.below hR.size (fun b hb => (ho2.lt b (by simpa using hb)).1))
                        obtain ⟨A9, c9, rfl, h9, _⟩ := SIn.of_own (p := q ++ [x]) k1 (by simp [strV])
                        have H9 := Lib.hid (And.intro h9 (H3.out.2.trans (hb4.mono H3.out.2.size)))
                        clear k1 k2 k3 hb4 h9 hR hV h2 ho2 h7 hp7 hk7
                        go_wp2_with fail
                        exact ⟨⟨i + 1, m + 1, A9, c9, by omega, by omega, by go_num, rfl, Lib.hid ⟨q ++ [x], HS.out, H9.out.1⟩, Lib.hid H9.out.2⟩, by simp [intOf]; omega⟩
            · obtain rfl : i = ln := by omega
              have HF : Hid ((leadB p t).2 = 0) := Lib.hid (by
                obtain ⟨q, hq, _⟩ := HQ.out
                rw [List.take_of_length_le (by rw [HLs.out.2]; exact Nat.le_refl _)] at hq
                rw [HE.out, hq])
              go_wp2_with fail
              go_ret2
              rw [HF.out]
              exact ⟨_, _, _, rfl, HB2.out.trans (HW.out.mono HB2.out.size)⟩
        · have b0 : (0 : Int) < (t.size : Int) := by omega
          go_wp2_with fail
          go_loopw [6, 8] (fun pv iv wr => ∃ i m : Nat, ∃ PA pc, i ≤ ln ∧ m ≤ 8 ∧ iv = .int .i64 i ∧ pv = .slice PA m pc ∧ Hid (∃ q : Pa, leadAll p (L.take i) = some q ∧ SIn wr PA m pc q) ∧ Hid (Below w2.heap.size w2 wr)) (fun _ iv _ => ln - (intOf iv).toNat)
          case atStart => exact ⟨0, _, _, _, by omega, HP.out.1, rfl, rfl, Lib.hid ⟨p, rfl, HP.out.2⟩, Lib.hid (Below.refl _ _)⟩
          case round =>
            obtain ⟨i, m, PA, pc, hi, hm, rfl, rfl, HQ, HW⟩ := hrel
            by_cases hlt : i < ln
            · obtain ⟨x, hx⟩ := HLs.out.1.get hlt
              have q0 := pcell_below (HLs.out.1.row i x hx) HW.out
              obtain ⟨q, hq, hs⟩ := HQ.out
              have hn := lead_next hq hx
              have hql := hs.len
              have hcap := hs.cap
              have hbig := hs.big
              have H := Lib.hid (And.intro hs (And.intro hn hql))
              clear hq hs hn hx HQ hql
              have b0 : (0 : Int) ≤ (i : Int) := by omega
              have b1 : (i : Int) < (ln : Int) := by omega
              by_cases d1 : x.data.toList = [46]
              · have e1 := bt_eq d1
                have HS : Hid (leadAll p (L.take (i + 1)) = some q) := Lib.hid (by rw [H.out.2.1]; unfold leadStep; rw [if_pos d1])
                clear d1
                go_wp2_with fail
                exact ⟨⟨i + 1, m, PA, pc, by omega, hm, by go_num, rfl, Lib.hid ⟨q, HS.out, H.out.1⟩, HW⟩, by simp [intOf]; omega⟩
              · have e1 := bt_ne d1
                by_cases d2 : x.data.toList = [46, 46]
                · have e2 := bt_eq d2
                  have hdots := name_dots d2
                  by_cases hm0 : m = 0
                  · have HF : Hid (leadB p t = ([], 10)) := Lib.hid (by
                      have h1 : leadStep q x = none := by
                        unfold leadStep
                        rw [if_neg d1, if_neg (by rw [H.out.2.2]; omega), if_neg (by rw [hdots]; simp)]
                      rw [HE.out, lead_none (H.out.2.1.trans h1)])
                    subst hm0
                    clear d1 d2 hdots
                    go_wp2_with fail
                    (try rw [Exit.noGoto_ret])
                    go_ret2
                    rw [HF.out]
                    exact ⟨none, 0, 0, rfl, HB2.out.trans (HW.out.mono HB2.out.size)⟩
                  · obtain ⟨k, rfl⟩ : ∃ k, m = k + 1 := ⟨m - 1, by omega⟩
                    have HS : Hid (leadAll p (L.take (i + 1)) = some (q.take k)) := Lib.hid (by
                      rw [H.out.2.1]
                      unfold leadStep
                      rw [if_neg d1, if_pos ⟨d2, by rw [H.out.2.2]; omega⟩, H.out.2.2]
                      rfl)
                    have HK := Lib.hid (H.out.1.take (k := k) (c' := pc) (by omega) (by omega) (Nat.le_refl _))
                    have b2 : ¬ ((k + 1 : Nat) : Int) = 0 := by omega
                    have b3 : (0 : Int) ≤ (k : Int) := by omega
                    have b4 : (k : Int) ≤ ((k + 1 : Nat) : Int) := by omega
                    have b5 : (k : Int) ≤ (pc : Int) := by omega
                    clear d1 d2 hdots
                    go_wp2_with (refine wpList_app (v := .slice (some ⟨wr.heap.size, 0, none⟩) 0 0) (base := wr.heap.size) (n := 0) rfl rfl Tryz.underlying38 str_info rfl (by decide) (strV (q.take k)) rfl (own_new wr 9 1) rfl (by rw [strV_length, HK.out.len, Nat.mul_one]) (fun h0 => psin_rows (HK.out.below (pnew wr _)) h0) (pstrV_one _) (by omega) (by decide) (by simp) ?_; intro v9 w9 k1 k2 k3; have H9 := Lib.hid (And.intro k1 k2); clear k1 k2 k3)
                    have hb9 : Below wr.heap.size wr w9 := (pnew wr (.cells #[] 9)).trans (H9.out.2.below (by simp) (fun b hb => by simp [Value.ownBlock] at hb; omega))
                    have ho := H9.out.1
                    rw [Nat.zero_add, List.nil_append] at ho
                    obtain ⟨A9, c9, rfl, h9, _⟩ := SIn.of_own (p := q.take k) ho rfl
                    have HN := Lib.hid (And.intro h9 (HW.out.trans (hb9.mono HW.out.size)))
                    clear ho hb9 h9
                    exact ⟨⟨i + 1, k, A9, c9, by omega, by omega, by go_num, rfl, Lib.hid ⟨q.take k, HS.out, HN.out.1⟩, Lib.hid HN.out.2⟩, by simp [intOf]; omega⟩
                · have e2 := bt_ne d2
                  have hstep : leadStep q x = if pnameB x = true ∧ q.length < 8 then some (q ++ [x]) else none := by
                    unfold leadStep
                    rw [if_neg d1, if_neg (fun h => d2 h.1)]
                  have HST := Lib.hid (H.out.2.1.trans hstep)
                  clear d1 d2 hstep
                  go_wp2_with fail
                  refine (rname_any wr x).mono ?_
                  rintro e w3 ⟨rfl, h3⟩
                  have q3 := pcell_below q0 h3
                  have H3 := Lib.hid (And.intro (H.out.1.below h3) (HW.out.trans (h3.mono HW.out.size)))
                  clear h3 q0
                  cases hpn : pnameB x with
                  | false =>
                    have HF : Hid (leadB p t = ([], 10)) := Lib.hid (by
                      have h1 := HST.out
                      rw [hpn, if_neg (by simp)] at h1
                      rw [HE.out, lead_none h1])
                    clear hpn
                    go_wp2_with fail
                    (try rw [Exit.noGoto_ret])
                    go_ret2
                    rw [HF.out]
                    exact ⟨none, 0, 0, rfl, HB2.out.trans (H3.out.2.mono HB2.out.size)⟩
                  | true =>
                    by_cases h8 : m = 8
                    · have HF : Hid (leadB p t = ([], 10)) := Lib.hid (by
                        have h1 := HST.out
                        rw [if_neg (by rw [H.out.2.2]; omega)] at h1
                        rw [HE.out, lead_none h1])
                      subst h8
                      clear hpn
                      go_wp2_with fail
                      (try rw [Exit.noGoto_ret])
                      go_ret2
                      rw [HF.out]
                      exact ⟨none, 0, 0, rfl, HB2.out.trans (H3.out.2.mono HB2.out.size)⟩
                    · have HS : Hid (leadAll p (L.take (i + 1)) = some (q ++ [x])) := Lib.hid (by rw [HST.out, if_pos ⟨hpn, by rw [H.out.2.2]; omega⟩])
                      have b6 : ¬ (m : Int) = 8 := by omega
                      clear hpn
                      go_wp2_with fail
                      refine wp_hideQ ?_
                      intro QQ hQQ
                      refine wp_region_quickT [some 36, some 37, some 38, some 39, some 40, some 41, some 42, some 43] [noV 9 w3.heap.size, isV (.slice PA m pc), ownSV w3.heap.size 9 1 m (strV q), isV (.slice (some ⟨g, oo, none⟩) ln lc), isV (.int .i64 (i : Int)), isV (.pointer (some ⟨g, oo + i, none⟩)), isV (.string x), pone1 w3.heap.size x] 8 10 (by kernel_rfl) rfl rfl rfl rfl (by kernel_rfl) (by kernel_rfl) (by simp [isV.st, noV.st, ownSV.st, pone1.st]) ?_ ?_
                      · intro hq rz hz
                        match rz, hz with
                        | 0, _ =>
                          refine StepL.val rfl [] (by decide +kernel) ?_
                          intro v wx hR hd
                          have hb := pnew wx (.cells #[] 9)
                          exact ⟨wanted_plain rfl _, xe_ex (x_slice (qs := #[]) rfl (by simp) (slice0_ps wx)) ⟨hR.trans (hb.mono hR.size), hb, _, rfl, hR.size, Blk.new wx 9 []⟩⟩
                        | 1, _ =>
                          refine StepL.val rfl [] (by decide +kernel) ?_
                          intro v wx hR hd
                          exact ⟨wanted_plain rfl _, _, _, x_move rfl (fill_off rfl rfl), hR, Below.refl _ _, rfl⟩
                        | 2, _ =>
                          refine StepL.val rfl [0, 1] (by decide +kernel) ?_
                          intro v wx hR hd
                          obtain ⟨p0, h0, hp0, hk0⟩ : (noV 9 w3.heap.size) (v 0) wx := hd 0 (by simp)
                          have h1 : v 1 = _ := hd 1 (by simp)
                          exact ⟨wanted_plain rfl _, xe_app_zeroG (N := w3.heap.size) rfl Tryz.underlying38 str_info rfl (by decide) (hq.at_ rfl h0) hp0 hk0 (hq.at_ rfl h1) (strV q) (by rw [strV_length, H3.out.1.len, Nat.mul_one]) (fun h0 => psin_rows (H3.out.1.below hR) h0) (pstrV_one _) (by omega) (by decide) hR.size (fun R' c' w' k1 k2 => ⟨hR.trans (k2.mono hR.size), k2, _, _, rfl, k1⟩)⟩
                        | 3, _ =>
                          refine StepL.val rfl [] (by decide +kernel) ?_
                          intro v wx hR hd
                          exact ⟨wanted_plain rfl _, _, _, x_move rfl (fill_off rfl rfl), hR, Below.refl _ _, rfl⟩
                        | 4, _ =>
                          refine StepL.val rfl [] (by decide +kernel) ?_
                          intro v wx hR hd
                          exact ⟨wanted_plain rfl _, _, _, x_move rfl (fill_off rfl rfl), hR, Below.refl _ _, rfl⟩
                        | 5, _ =>
                          refine StepL.val rfl [3, 4] (by decide +kernel) ?_
                          intro v wx hR hd
                          have h3 : v 3 = _ := hd 3 (by simp)
                          have h4 : v 4 = _ := hd 4 (by simp)
                          exact ⟨wanted_plain rfl _, _, _, x_index rfl (hq.at_ rfl h3) (hq.at_ rfl h4) (r_index (e := 9) (size := 1) (by kernel_rfl) (by kernel_rfl) (by omega) (by omega) (by simp)), hR, Below.refl _ _, rfl⟩
                        | 6, _ =>
                          refine StepL.val rfl [5] (by decide +kernel) ?_
                          intro v wx hR hd
                          have h5 : v 5 = _ := hd 5 (by simp)
                          exact ⟨wanted_plain rfl _, _, _, x_load rfl (hq.at_ rfl h5) (r_load (by kernel_rfl) (pcell_below q3 hR)), hR, Below.refl _ _, rfl⟩
                        | 7, _ =>
                          refine StepL.val rfl [6] (by decide +kernel) ?_
                          intro v wx hR hd
                          have h6 : v 6 = _ := hd 6 (by simp)
                          have hb := pnew wx (.cells #[.string x] 9)
                          exact ⟨wanted_plain rfl _, xe_ex (x_slice rfl (pairs_1 (hq.at_ rfl h6)) (build_one wx x)) ⟨hR.trans (hb.mono hR.size), hb, _, rfl, hR.size, Blk.new wx 9 [.string x]⟩⟩
                        | rz + 8, h => omega
                      · intro v wx hR hV
                        obtain ⟨R2, c2, h2, ho2⟩ : ownSV w3.heap.size 9 1 m (strV q) (v 2) wx := hV 2 (by omega)
                        obtain ⟨p7, h7, hp7, hk7⟩ : pone1 w3.heap.size x (v 7) wx := hV 7 (by omega)
                        simp only [fillR, Act.put, List.setIfInBounds_toArray, List.set_cons_zero, List.set_cons_succ, List.drop_succ_cons, List.drop_zero, h2, h7]
                        refine wpList_app (v := .slice R2 m c2) (base := w3.heap.size) (n := m) rfl rfl Tryz.underlying38 str_info rfl (by decide) [.string x] rfl ho2 rfl rfl (fun _ => ⟨_, _, rfl, fun j u hu => by rw [Nat.zero_add]; exact (hk7.cell j).trans hu⟩) (by simp [Value.oneCell']) (by omega) (by decide) hR.size ?_
                        intro v9 w4 k1 k2 k3
                        have hb4 : Below w3.heap.size w3 w4 := hR.trans (k2.below hR.size (fun b hb => (ho2.lt b (by simpa using hb)).1))
                        obtain ⟨A9, c9, rfl, h9, _⟩ := SIn.of_own (p := q ++ [x]) k1 (by simp [strV])
                        have H9 := Lib.hid (And.intro h9 (H3.out.2.trans (hb4.mono H3.out.2.size)))
                        clear k1 k2 k3 hb4 h9 hR hV h2 ho2 h7 hp7 hk7
                        go_wp2_with fail
                        exact ⟨⟨i + 1, m + 1, A9, c9, by omega, by omega, by go_num, rfl, Lib.hid ⟨q ++ [x], HS.out, H9.out.1⟩, Lib.hid H9.out.2⟩, by simp [intOf]; omega⟩
            · obtain rfl : i = ln := by omega
              have HF : Hid ((leadB p t).2 = 0) := Lib.hid (by
                obtain ⟨q, hq, _⟩ := HQ.out
                rw [List.take_of_length_le (by rw [HLs.out.2]; exact Nat.le_refl _)] at hq
                rw [HE.out, hq])
              go_wp2_with fail
              go_ret2
              rw [HF.out]
              exact ⟨_, _, _, rfl, HB2.out.trans (HW.out.mono HB2.out.size)⟩
      | true =>
        obtain ⟨hz, h47⟩ := (begP_iff t).1 hq
        have h48 : ∀ h : 0 < t.size, ((t[0]'h).toNat : Int) = 47 := fun h => by rw [sgAt_get t 0 h]; exact h47
        have HE : Hid (leadB p t = (match leadAll [] (splitP (cutP t)) with | some q => (q, 0) | none => ([], 10))) := Lib.hid (by rw [HE0.out, hq]; rfl)
        have hsp := split_beg hq
        have hl1 : 1 ≤ (splitP (cutP t)).length := by rw [split_length]; omega
        obtain ⟨L, hL⟩ : ∃ L, L = splitP (cutP t) := ⟨_, rfl⟩
        rw [← hL] at HE hsp hl1
        have hd := hl.drop (k := 1) (by rw [hsp]; simp)
        rw [hsp] at hd hlcap hlen ⊢
        simp only [List.length_cons, List.drop_succ_cons, List.drop_zero, Nat.add_sub_cancel, if_neg (show ¬ lc = 1 by simp at hlcap; omega), Option.map_some, paddr] at hd hlcap hlen ⊢
        obtain ⟨ln, hln⟩ : ∃ ln, ln = L.length := ⟨_, rfl⟩
        rw [← hln] at hd hlen hlcap hl1 ⊢
        obtain ⟨oo, hoo⟩ : ∃ oo, oo = o + 1 := ⟨_, rfl⟩
        obtain ⟨l2, hl2⟩ : ∃ l2, l2 = lc - 1 := ⟨_, rfl⟩
        rw [← hoo, ← hl2] at hd
        have HOO := Lib.hid (And.intro hoo hl2)
        have HLs := Lib.hid (And.intro hd hln.symm)
        have HP : Hid (0 ≤ 8 ∧ SIn w2 none 0 0 []) := Lib.hid ⟨by omega, SIn.none _ _ (by omega) (fun _ => rfl)⟩
        have b0 : (0 : Int) < (t.size : Int) := by omega
        have b2 : (1 : Int) ≤ ((ln + 1 : Nat) : Int) := by omega
        have b3 : ((ln + 1 : Nat) : Int) ≤ (lc : Int) := by omega
        have b4 : ¬ lc = 1 := by omega
        have b5 : (1 : Int) ≤ (ln : Int) + 1 := by omega
        have b6 : (ln : Int) + 1 ≤ (lc : Int) := by omega
        have b7 : ¬ (lc : Int) = 1 := by omega
        clear hl hd hlf hlb hp2 hq hL hln HE0 hsp h47 hoo hl2
        go_wp2_with fail
        go_region_held3 (fun _ => True) (trivial) (first | go_in)
        rw [← HOO.out.1, ← HOO.out.2]
        go_wp2_with fail
        go_loopw [6, 8] (fun pv iv wr => ∃ i m : Nat, ∃ PA pc, i ≤ ln ∧ m ≤ 8 ∧ iv = .int .i64 i ∧ pv = .slice PA m pc ∧ Hid (∃ q : Pa, leadAll ([] : Pa) (L.take i) = some q ∧ SIn wr PA m pc q) ∧ Hid (Below w2.heap.size w2 wr)) (fun _ iv _ => ln - (intOf iv).toNat)
        case atStart => exact ⟨0, _, _, _, by omega, HP.out.1, rfl, rfl, Lib.hid ⟨([] : Pa), rfl, HP.out.2.below (pdrew w2)⟩, Lib.hid (pdrew w2)⟩
        case round =>
          obtain ⟨i, m, PA, pc, hi, hm, rfl, rfl, HQ, HW⟩ := hrel
          by_cases hlt : i < ln
          · obtain ⟨x, hx⟩ := HLs.out.1.get hlt
            have q0 := pcell_below (HLs.out.1.row i x hx) HW.out
            obtain ⟨q, hq, hs⟩ := HQ.out
            have hn := lead_next hq hx
            have hql := hs.len
            have hcap := hs.cap
            have hbig := hs.big
            have H := Lib.hid (And.intro hs (And.intro hn hql))
            clear hq hs hn hx HQ hql
            have b0 : (0 : Int) ≤ (i : Int) := by omega
            have b1 : (i : Int) < (ln : Int) := by omega
            by_cases d1 : x.data.toList = [46]
            · have e1 := bt_eq d1
              have HS : Hid (leadAll ([] : Pa) (L.take (i + 1)) = some q) := Lib.hid (by rw [H.out.2.1]; unfold leadStep; rw [if_pos d1])
              clear d1
              go_wp2_with fail
              exact ⟨⟨i + 1, m, PA, pc, by omega, hm, by go_num, rfl, Lib.hid ⟨q, HS.out, H.out.1⟩, HW⟩, by simp [intOf]; omega⟩
            · have e1 := bt_ne d1
              by_cases d2 : x.data.toList = [46, 46]
              · have e2 := bt_eq d2
                have hdots := name_dots d2
                by_cases hm0 : m = 0
                · have HF : Hid (leadB p t = ([], 10)) := Lib.hid (by
                    have h1 : leadStep q x = none := by
                      unfold leadStep
                      rw [if_neg d1, if_neg (by rw [H.out.2.2]; omega), if_neg (by rw [hdots]; simp)]
                    rw [HE.out, lead_none (H.out.2.1.trans h1)])
                  subst hm0
                  clear d1 d2 hdots
                  go_wp2_with fail
                  (try rw [Exit.noGoto_ret])
                  go_ret2
                  rw [HF.out]
                  exact ⟨none, 0, 0, rfl, HB2.out.trans (HW.out.mono HB2.out.size)⟩
                · obtain ⟨k, rfl⟩ : ∃ k, m = k + 1 := ⟨m - 1, by omega⟩
                  have HS : Hid (leadAll ([] : Pa) (L.take (i + 1)) = some (q.take k)) := Lib.hid (by
                    rw [H.out.2.1]
                    unfold leadStep
                    rw [if_neg d1, if_pos ⟨d2, by rw [H.out.2.2]; omega⟩, H.out.2.2]
                    rfl)
                  have HK := Lib.hid (H.out.1.take (k := k) (c' := pc) (by omega) (by omega) (Nat.le_refl _))
                  have b2 : ¬ ((k + 1 : Nat) : Int) = 0 := by omega
                  have b3 : (0 : Int) ≤ (k : Int) := by omega
                  have b4 : (k : Int) ≤ ((k + 1 : Nat) : Int) := by omega
                  have b5 : (k : Int) ≤ (pc : Int) := by omega
                  clear d1 d2 hdots
                  go_wp2_with (refine wpList_app (v := .slice (some ⟨wr.heap.size, 0, none⟩) 0 0) (base := wr.heap.size) (n := 0) rfl rfl Tryz.underlying38 str_info rfl (by decide) (strV (q.take k)) rfl (own_new wr 9 1) rfl (by rw [strV_length, HK.out.len, Nat.mul_one]) (fun h0 => psin_rows (HK.out.below (pnew wr _)) h0) (pstrV_one _) (by omega) (by decide) (by simp) ?_; intro v9 w9 k1 k2 k3; have H9 := Lib.hid (And.intro k1 k2); clear k1 k2 k3)
                  have hb9 : Below wr.heap.size wr w9 := (pnew wr (.cells #[] 9)).trans (H9.out.2.below (by simp) (fun b hb => by simp [Value.ownBlock] at hb; omega))
                  have ho := H9.out.1
                  rw [Nat.zero_add, List.nil_append] at ho
                  obtain ⟨A9, c9, rfl, h9, _⟩ := SIn.of_own (p := q.take k) ho rfl
                  have HN := Lib.hid (And.intro h9 (HW.out.trans (hb9.mono HW.out.size)))
                  clear ho hb9 h9
                  exact ⟨⟨i + 1, k, A9, c9, by omega, by omega, by go_num, rfl, Lib.hid ⟨q.take k, HS.out, HN.out.1⟩, Lib.hid HN.out.2⟩, by simp [intOf]; omega⟩
              · have e2 := bt_ne d2
                have hstep : leadStep q x = if pnameB x = true ∧ q.length < 8 then some (q ++ [x]) else none := by
                  unfold leadStep
                  rw [if_neg d1, if_neg (fun h => d2 h.1)]
                have HST := Lib.hid (H.out.2.1.trans hstep)
                clear d1 d2 hstep
                go_wp2_with fail
                refine (rname_any wr x).mono ?_
                rintro e w3 ⟨rfl, h3⟩
                have q3 := pcell_below q0 h3
                have H3 := Lib.hid (And.intro (H.out.1.below h3) (HW.out.trans (h3.mono HW.out.size)))
                clear h3 q0
                cases hpn : pnameB x with
                | false =>
                  have HF : Hid (leadB p t = ([], 10)) := Lib.hid (by
                    have h1 := HST.out
                    rw [hpn, if_neg (by simp)] at h1
                    rw [HE.out, lead_none h1])
                  clear hpn
                  go_wp2_with fail
                  (try rw [Exit.noGoto_ret])
                  go_ret2
                  rw [HF.out]
                  exact ⟨none, 0, 0, rfl, HB2.out.trans (H3.out.2.mono HB2.out.size)⟩
                | true =>
                  by_cases h8 : m = 8
                  · have HF : Hid (leadB p t = ([], 10)) := Lib.hid (by
                      have h1 := HST.out
                      rw [if_neg (by rw [H.out.2.2]; omega)] at h1
                      rw [HE.out, lead_none h1])
                    subst h8
                    clear hpn
                    go_wp2_with fail
                    (try rw [Exit.noGoto_ret])
                    go_ret2
                    rw [HF.out]
                    exact ⟨none, 0, 0, rfl, HB2.out.trans (H3.out.2.mono HB2.out.size)⟩
                  · have HS : Hid (leadAll ([] : Pa) (L.take (i + 1)) = some (q ++ [x])) := Lib.hid (by rw [HST.out, if_pos ⟨hpn, by rw [H.out.2.2]; omega⟩])
                    have b6 : ¬ (m : Int) = 8 := by omega
                    clear hpn
                    go_wp2_with fail
                    refine wp_hideQ ?_
                    intro QQ hQQ
                    refine wp_region_quickT [some 36, some 37, some 38, some 39, some 40, some 41, some 42, some 43] [noV 9 w3.heap.size, isV (.slice PA m pc), ownSV w3.heap.size 9 1 m (strV q), isV (.slice (some ⟨g, oo, none⟩) ln l2), isV (.int .i64 (i : Int)), isV (.pointer (some ⟨g, oo + i, none⟩)), isV (.string x), pone1 w3.heap.size x] 8 10 (by kernel_rfl) rfl rfl rfl rfl (by kernel_rfl) (by kernel_rfl) (by simp [isV.st, noV.st, ownSV.st, pone1.st]) ?_ ?_
                    · intro hq rz hz
                      match rz, hz with
                      | 0, _ =>
                        refine StepL.val rfl [] (by decide +kernel) ?_
                        intro v wx hR hd
                        have hb := pnew wx (.cells #[] 9)
                        exact ⟨wanted_plain rfl _, xe_ex (x_slice (qs := #[]) rfl (by simp) (slice0_ps wx)) ⟨hR.trans (hb.mono hR.size), hb, _, rfl, hR.size, Blk.new wx 9 []⟩⟩
                      | 1, _ =>
                        refine StepL.val rfl [] (by decide +kernel) ?_
                        intro v wx hR hd
                        exact ⟨wanted_plain rfl _, _, _, x_move rfl (fill_off rfl rfl), hR, Below.refl _ _, rfl⟩
                      | 2, _ =>
                        refine StepL.val rfl [0, 1] (by decide +kernel) ?_
                        intro v wx hR hd
                        obtain ⟨p0, h0, hp0, hk0⟩ : (noV 9 w3.heap.size) (v 0) wx := hd 0 (by simp)
                        have h1 : v 1 = _ := hd 1 (by simp)
                        exact ⟨wanted_plain rfl _, xe_app_zeroG (N := w3.heap.size) rfl Tryz.underlying38 str_info rfl (by decide) (hq.at_ rfl h0) hp0 hk0 (hq.at_ rfl h1) (strV q) (by rw [strV_length, H3.out.1.len, Nat.mul_one]) (fun h0 => psin_rows (H3.out.1.below hR) h0) (pstrV_one _) (by omega) (by decide) hR.size (fun R' c' w' k1 k2 => ⟨hR.trans (k2.mono hR.size), k2, _, _, rfl, k1⟩)⟩
                      | 3, _ =>
                        refine StepL.val rfl [] (by decide +kernel) ?_
                        intro v wx hR hd
                        exact ⟨wanted_plain rfl _, _, _, x_move rfl (fill_off rfl rfl), hR, Below.refl _ _, rfl⟩
                      | 4, _ =>
                        refine StepL.val rfl [] (by decide +kernel) ?_
                        intro v wx hR hd
                        exact ⟨wanted_plain rfl _, _, _, x_move rfl (fill_off rfl rfl), hR, Below.refl _ _, rfl⟩
                      | 5, _ =>
                        refine StepL.val rfl [3, 4] (by decide +kernel) ?_
                        intro v wx hR hd
                        have h3 : v 3 = _ := hd 3 (by simp)
                        have h4 : v 4 = _ := hd 4 (by simp)
                        exact ⟨wanted_plain rfl _, _, _, x_index rfl (hq.at_ rfl h3) (hq.at_ rfl h4) (r_index (e := 9) (size := 1) (by kernel_rfl) (by kernel_rfl) (by omega) (by omega) (by simp)), hR, Below.refl _ _, rfl⟩
                      | 6, _ =>
                        refine StepL.val rfl [5] (by decide +kernel) ?_
                        intro v wx hR hd
                        have h5 : v 5 = _ := hd 5 (by simp)
                        exact ⟨wanted_plain rfl _, _, _, x_load rfl (hq.at_ rfl h5) (r_load (by kernel_rfl) (pcell_below q3 hR)), hR, Below.refl _ _, rfl⟩
                      | 7, _ =>
                        refine StepL.val rfl [6] (by decide +kernel) ?_
                        intro v wx hR hd
                        have h6 : v 6 = _ := hd 6 (by simp)
                        have hb := pnew wx (.cells #[.string x] 9)
                        exact ⟨wanted_plain rfl _, xe_ex (x_slice rfl (pairs_1 (hq.at_ rfl h6)) (build_one wx x)) ⟨hR.trans (hb.mono hR.size), hb, _, rfl, hR.size, Blk.new wx 9 [.string x]⟩⟩
                      | rz + 8, h => omega
                    · intro v wx hR hV
                      obtain ⟨R2, c2, h2, ho2⟩ : ownSV w3.heap.size 9 1 m (strV q) (v 2) wx := hV 2 (by omega)
                      obtain ⟨p7, h7, hp7, hk7⟩ : pone1 w3.heap.size x (v 7) wx := hV 7 (by omega)
                      simp only [fillR, Act.put, List.setIfInBounds_toArray, List.set_cons_zero, List.set_cons_succ, List.drop_succ_cons, List.drop_zero, h2, h7]
                      refine wpList_app (v := .slice R2 m c2) (base := w3.heap.size) (n := m) rfl rfl Tryz.underlying38 str_info rfl (by decide) [.string x] rfl ho2 rfl rfl (fun _ => ⟨_, _, rfl, fun j u hu => by rw [Nat.zero_add]; exact (hk7.cell j).trans hu⟩) (by simp [Value.oneCell']) (by omega) (by decide) hR.size ?_
                      intro v9 w4 k1 k2 k3
                      have hb4 : Below w3.heap.size w3 w4 := hR.trans (k2.below hR.size (fun b hb => (ho2.lt b (by simpa using hb)).1))
                      obtain ⟨A9, c9, rfl, h9, _⟩ := SIn.of_own (p := q ++ [x]) k1 (by simp [strV])
                      have H9 := Lib.hid (And.intro h9 (H3.out.2.trans (hb4.mono H3.out.2.size)))
                      clear k1 k2 k3 hb4 h9 hR hV h2 ho2 h7 hp7 hk7
                      go_wp2_with fail
                      exact ⟨⟨i + 1, m + 1, A9, c9, by omega, by omega, by go_num, rfl, Lib.hid ⟨q ++ [x], HS.out, H9.out.1⟩, Lib.hid H9.out.2⟩, by simp [intOf]; omega⟩
          · obtain rfl : i = ln := by omega
            have HF : Hid ((leadB p t).2 = 0) := Lib.hid (by
              obtain ⟨q, hq, _⟩ := HQ.out
              rw [List.take_of_length_le (by rw [HLs.out.2]; exact Nat.le_refl _)] at hq
              rw [HE.out, hq])
            go_wp2_with fail
            go_ret2
            rw [HF.out]
            exact ⟨_, _, _, rfl, HB2.out.trans (HW.out.mono HB2.out.size)⟩
end Go.Proofs.YtlpljedacohngaaGreatDoor
end

/-
  Whether two lists of entries are the same, as the program tells it. Condition: the entries lie in memory.
-/

section
set_option linter.unusedSimpArgs false
set_option linter.unusedVariables false
set_option maxRecDepth 100000
namespace Go.Proofs.YtlpljedacohngaaGreatDoor
open Go.RowKit

theorem En.ext_ {a b : En} (h1 : a.path = b.path) (h2 : a.kind = b.kind) (h3 : a.mode = b.mode) (h4 : a.data = b.data) : a = b := by
  cases a; cases b; simp_all
def sameE (a b : En) : Bool := decide (a.path = b.path) && decide (a.kind = b.kind) && decide (a.mode = b.mode) && decide (a.data = b.data)
theorem sameE_iff (a b : En) : sameE a b = true ↔ a = b := by
  unfold sameE
  simp only [Bool.and_eq_true, decide_eq_true_eq]
  constructor
  · rintro ⟨⟨⟨h1, h2⟩, h3⟩, h4⟩
    exact En.ext_ h1 h2 h3 h4
  · rintro rfl
    exact ⟨⟨⟨rfl, rfl⟩, rfl⟩, rfl⟩
theorem bytes_nb {x y : List B8} : (Lib.bytesOf (x.map nb) == Lib.bytesOf (y.map nb)) = decide (x = y) := by
  have hi : ∀ a b : B8, UInt8.ofNat (nb a).toNat = UInt8.ofNat (nb b).toNat → a = b := by
    intro a b h
    have h1 : (UInt8.ofNat (nb a).toNat).toNat = (UInt8.ofNat (nb b).toNat).toNat := by rw [h]
    have ha := nb_bound a
    have hb := nb_bound b
    simp only [UInt8.toNat_ofNat'] at h1
    exact nb_inj (by omega)
  by_cases h : x = y
  · subst h; simp
  · rw [decide_eq_false h, beq_eq_false_iff_ne]
    intro e
    apply h
    unfold Lib.bytesOf at e
    rw [List.map_map, List.map_map] at e
    exact (List.map_inj_right (fun a b hab => hi a b hab)).1 e
/-- bytes.Equal, of bytes in memory. -/
theorem bequal_din (w : World) (A B : Option Addr) (n c m d : Nat) (xs ys : List B8) (h : DIn w A n c xs) (k : DIn w B m d ys) :
    Calls Tryz.prog 39 #[.slice A n c, .slice B m d] w fun e w' => e = .returned (.bool (decide (xs = ys))) ∧ w' = w := by
  refine (Tryz.bytes_Equal_all A B n c m d (xs.map nb) (ys.map nb) w (by rw [List.length_map, h.len]) (by rw [List.length_map, k.len]) h.bytesIn k.bytesIn).mono ?_
  rintro e w' ⟨rfl, rfl⟩
  exact ⟨by rw [bytes_nb], rfl⟩
theorem en_ext {p q : List En} (hl : p.length = q.length) (h : ∀ (j : Nat) t u, p[j]? = some t → q[j]? = some u → t = u) : p = q := by
  apply List.ext_getElem?
  intro j
  rcases Nat.lt_or_ge j p.length with hj | hj
  · have e1 := List.getElem?_eq_getElem hj
    have e2 := List.getElem?_eq_getElem (l := q) (i := j) (by omega)
    rw [e1, e2, h j _ _ e1 e2]
  · rw [List.getElem?_eq_none hj, List.getElem?_eq_none (by omega)]
end Go.Proofs.YtlpljedacohngaaGreatDoor
end

/-
  The document's entries of the program's. Condition: the entries lie in memory.
-/

section
set_option linter.unusedSimpArgs false
set_option linter.unusedVariables false
set_option maxRecDepth 100000
namespace Go.Proofs.YtlpljedacohngaaGreatDoor
open Go.RowKit

set_option maxHeartbeats 4000000 in
theorem of12_any (w : World) (A : Option Addr) (n c : Nat) (xs : List Ev) (es : List En) (h : EIn w A n c xs es) (hn : n ≤ 100) :
    Calls Tryz.prog 8 #[.slice A n c] w fun e w' => ∃ B d, e = .returned (.slice B n d) ∧ EIn w' B n d xs es ∧ Below w.heap.size w w' := by
  have H := Lib.hid h
  have HL := Lib.hid (And.intro h.len h.elen)
  clear h
  go_enter Tryz.func8, Tryz.ntmps8
  go_wp2_with fail
  go_loopw [3, 4] (fun u3 iv wr => ∃ i : Nat, i ≤ n ∧ iv = .int .i64 i ∧ Hid (wr.ownsRow w.heap.size 54 4 u3 i (rowE (xs.take i))) ∧ Hid (Below w.heap.size w wr)) (fun _ iv _ => n - (intOf iv).toNat)
  case atStart => exact ⟨0, by omega, rfl, Lib.hid (World.ownsRow_nil _ _ _ _), Lib.hid (Below.refl _ _)⟩
  case round =>
    obtain ⟨i, hi, rfl, HO, HW⟩ := hrel
    by_cases hlt : i < n
    · obtain ⟨g, o, x, a, rfl, hg, hx, ha, hok, hcl⟩ := (H.out.below HW.out).row hlt
      have q0 : wr.cell? ⟨g, o + i * 4, none⟩ = some (.slice x.PA x.pn x.pc) := hcl 0 _ rfl
      have q1 : wr.cell? ⟨g, o + i * 4 + 1, none⟩ = some (.int .i64 x.k) := hcl 1 _ rfl
      have q2 : wr.cell? ⟨g, o + i * 4 + 2, none⟩ = some (.int .i64 x.m) := hcl 2 _ rfl
      have q3 : wr.cell? ⟨g, o + i * 4 + 3, none⟩ = some (.slice x.DA x.dn x.dc) := hcl 3 _ rfl
      have HX := Lib.hid hx
      have b0 : (0 : Int) ≤ (i : Int) := by omega
      have b1 : (i : Int) < (n : Int) := by omega
      clear hx ha hok hcl hg
      go_wp2_with fail
      refine wp_hideQ ?_
      intro QQ hQQ
      refine wp_region_quickT [some 11, some 12, some 13, some 14, some 15, some 16, some 17, some 18, some 19, some 20, some 21, some 22, some 23, some 24, some 25, some 26, some 27, some 28, some 29, some 30, some 31, some 32, some 33] [isV (u3), isV (.slice (some ⟨g, o, none⟩) n c), isV (.int .i64 (i : Int)), isV (.pointer (some ⟨g, o + i * 4, none⟩)), isV (.pointer (some ⟨g, o + i * 4, none⟩)), isV (.slice x.PA x.pn x.pc), isV (.slice (some ⟨g, o, none⟩) n c), isV (.int .i64 (i : Int)), isV (.pointer (some ⟨g, o + i * 4, none⟩)), isV (.pointer (some ⟨g, o + i * 4 + 1, none⟩)), isV (.int .i64 x.k), isV (.slice (some ⟨g, o, none⟩) n c), isV (.int .i64 (i : Int)), isV (.pointer (some ⟨g, o + i * 4, none⟩)), isV (.pointer (some ⟨g, o + i * 4 + 2, none⟩)), isV (.int .i64 x.m), isV (.slice (some ⟨g, o, none⟩) n c), isV (.int .i64 (i : Int)), isV (.pointer (some ⟨g, o + i * 4, none⟩)), isV (.pointer (some ⟨g, o + i * 4 + 3, none⟩)), isV (.slice x.DA x.dn x.dc), isV (evV (x : Ev)), rowOneE 54 wr.heap.size (evC x)] 23 25 (by kernel_rfl) rfl rfl rfl rfl (by kernel_rfl) (by kernel_rfl) (by simp [isV.st, rowOneE.st]) ?_ ?_
      · intro hq rz hz
        match rz, hz with
        | 0, _ =>
          refine StepL.val rfl [] (by decide +kernel) ?_
          intro v wx hR hd
          exact ⟨wanted_plain rfl _, _, _, x_move rfl (fill_off rfl rfl), hR, Below.refl _ _, rfl⟩
        | 1, _ =>
          refine StepL.val rfl [] (by decide +kernel) ?_
          intro v wx hR hd
          exact ⟨wanted_plain rfl _, _, _, x_move rfl (fill_off rfl rfl), hR, Below.refl _ _, rfl⟩
        | 2, _ =>
          refine StepL.val rfl [] (by decide +kernel) ?_
          intro v wx hR hd
          exact ⟨wanted_plain rfl _, _, _, x_move rfl (fill_off rfl rfl), hR, Below.refl _ _, rfl⟩
        | 3, _ =>
          refine StepL.val rfl [1, 2] (by decide +kernel) ?_
          intro v wx hR hd
          have h1 : v 1 = _ := hd 1 (by simp)
          have h2 : v 2 = _ := hd 2 (by simp)
          exact ⟨wanted_plain rfl _, _, _, x_index rfl (hq.at_ rfl h1) (hq.at_ rfl h2) (r_index (e := 40) (size := 4) (by kernel_rfl) (by kernel_rfl) (by omega) (by omega) (by first | omega | simp)), hR, Below.refl _ _, rfl⟩
        | 4, _ =>
          refine StepL.val rfl [3] (by decide +kernel) ?_
          intro v wx hR hd
          have h3 : v 3 = _ := hd 3 (by simp)
          exact ⟨wanted_plain rfl _, _, _, x_field rfl (hq.at_ rfl h3) (r_field (off := 0) (by kernel_rfl)), hR, Below.refl _ _, rfl⟩
        | 5, _ =>
          refine StepL.val rfl [4] (by decide +kernel) ?_
          intro v wx hR hd
          have h4 : v 4 = _ := hd 4 (by simp)
          exact ⟨wanted_plain rfl _, _, _, x_load rfl (hq.at_ rfl h4) (r_load (by kernel_rfl) (pcell_below q0 hR)), hR, Below.refl _ _, rfl⟩
        | 6, _ =>
          refine StepL.val rfl [] (by decide +kernel) ?_
          intro v wx hR hd
          exact ⟨wanted_plain rfl _, _, _, x_move rfl (fill_off rfl rfl), hR, Below.refl _ _, rfl⟩
        | 7, _ =>
          refine StepL.val rfl [] (by decide +kernel) ?_
          intro v wx hR hd
          exact ⟨wanted_plain rfl _, _, _, x_move rfl (fill_off rfl rfl), hR, Below.refl _ _, rfl⟩
        | 8, _ =>
          refine StepL.val rfl [6, 7] (by decide +kernel) ?_
          intro v wx hR hd
          have h6 : v 6 = _ := hd 6 (by simp)
          have h7 : v 7 = _ := hd 7 (by simp)
          exact ⟨wanted_plain rfl _, _, _, x_index rfl (hq.at_ rfl h6) (hq.at_ rfl h7) (r_index (e := 40) (size := 4) (by kernel_rfl) (by kernel_rfl) (by omega) (by omega) (by first | omega | simp)), hR, Below.refl _ _, rfl⟩
        | 9, _ =>
          refine StepL.val rfl [8] (by decide +kernel) ?_
          intro v wx hR hd
          have h8 : v 8 = _ := hd 8 (by simp)
          exact ⟨wanted_plain rfl _, _, _, x_field rfl (hq.at_ rfl h8) (r_field (off := 1) (by kernel_rfl)), hR, Below.refl _ _, rfl⟩
        | 10, _ =>
          refine StepL.val rfl [9] (by decide +kernel) ?_
          intro v wx hR hd
          have h9 : v 9 = _ := hd 9 (by simp)
          exact ⟨wanted_plain rfl _, _, _, x_load rfl (hq.at_ rfl h9) (r_load (by kernel_rfl) (pcell_below q1 hR)), hR, Below.refl _ _, rfl⟩
        | 11, _ =>
          refine StepL.val rfl [] (by decide +kernel) ?_
          intro v wx hR hd
          exact ⟨wanted_plain rfl _, _, _, x_move rfl (fill_off rfl rfl), hR, Below.refl _ _, rfl⟩
        | 12, _ =>
          refine StepL.val rfl [] (by decide +kernel) ?_
          intro v wx hR hd
          exact ⟨wanted_plain rfl _, _, _, x_move rfl (fill_off rfl rfl), hR, Below.refl _ _, rfl⟩
        | 13, _ =>
          refine StepL.val rfl [11, 12] (by decide +kernel) ?_
          intro v wx hR hd
          have h11 : v 11 = _ := hd 11 (by simp)
          have h12 : v 12 = _ := hd 12 (by simp)
          exact ⟨wanted_plain rfl _, _, _, x_index rfl (hq.at_ rfl h11) (hq.at_ rfl h12) (r_index (e := 40) (size := 4) (by kernel_rfl) (by kernel_rfl) (by omega) (by omega) (by first | omega | simp)), hR, Below.refl _ _, rfl⟩
        | 14, _ =>
          refine StepL.val rfl [13] (by decide +kernel) ?_
          intro v wx hR hd
          have h13 : v 13 = _ := hd 13 (by simp)
          exact ⟨wanted_plain rfl _, _, _, x_field rfl (hq.at_ rfl h13) (r_field (off := 2) (by kernel_rfl)), hR, Below.refl _ _, rfl⟩
        | 15, _ =>
          refine StepL.val rfl [14] (by decide +kernel) ?_
          intro v wx hR hd
          have h14 : v 14 = _ := hd 14 (by simp)
          exact ⟨wanted_plain rfl _, _, _, x_load rfl (hq.at_ rfl h14) (r_load (by kernel_rfl) (pcell_below q2 hR)), hR, Below.refl _ _, rfl⟩
        | 16, _ =>
          refine StepL.val rfl [] (by decide +kernel) ?_
          intro v wx hR hd
          exact ⟨wanted_plain rfl _, _, _, x_move rfl (fill_off rfl rfl), hR, Below.refl _ _, rfl⟩
        | 17, _ =>
          refine StepL.val rfl [] (by decide +kernel) ?_
          intro v wx hR hd
          exact ⟨wanted_plain rfl _, _, _, x_move rfl (fill_off rfl rfl), hR, Below.refl _ _, rfl⟩
        | 18, _ =>
          refine StepL.val rfl [16, 17] (by decide +kernel) ?_
          intro v wx hR hd
          have h16 : v 16 = _ := hd 16 (by simp)
          have h17 : v 17 = _ := hd 17 (by simp)
          exact ⟨wanted_plain rfl _, _, _, x_index rfl (hq.at_ rfl h16) (hq.at_ rfl h17) (r_index (e := 40) (size := 4) (by kernel_rfl) (by kernel_rfl) (by omega) (by omega) (by first | omega | simp)), hR, Below.refl _ _, rfl⟩
        | 19, _ =>
          refine StepL.val rfl [18] (by decide +kernel) ?_
          intro v wx hR hd
          have h18 : v 18 = _ := hd 18 (by simp)
          exact ⟨wanted_plain rfl _, _, _, x_field rfl (hq.at_ rfl h18) (r_field (off := 3) (by kernel_rfl)), hR, Below.refl _ _, rfl⟩
        | 20, _ =>
          refine StepL.val rfl [19] (by decide +kernel) ?_
          intro v wx hR hd
          have h19 : v 19 = _ := hd 19 (by simp)
          exact ⟨wanted_plain rfl _, _, _, x_load rfl (hq.at_ rfl h19) (r_load (by kernel_rfl) (pcell_below q3 hR)), hR, Below.refl _ _, rfl⟩
        | 21, _ =>
          refine StepL.val rfl [5, 10, 15, 20] (by decide +kernel) ?_
          intro v wx hR hd
          have h5 : v 5 = _ := hd 5 (by simp)
          have h10 : v 10 = _ := hd 10 (by simp)
          have h15 : v 15 = _ := hd 15 (by simp)
          have h20 : v 20 = _ := hd 20 (by simp)
          exact ⟨wanted_plain rfl _, xe_ex (x_build rfl (pairs_4 (hq.at_ rfl h5) (hq.at_ rfl h10) (hq.at_ rfl h15) (hq.at_ rfl h20)) (build_rev wx _ _ _ _ _ _ _ _)) ⟨hR, Below.refl _ _, rfl⟩⟩
        | 22, _ =>
          refine StepL.val rfl [21] (by decide +kernel) ?_
          intro v wx hR hd
          have h21 : v 21 = _ := hd 21 (by simp)
          have hb := pnew wx (.cells (evC x).toArray 54)
          exact ⟨wanted_plain rfl _, xe_ex (x_slice rfl (pairs_1 (hq.at_ rfl h21)) (slice_rev12 wx x)) ⟨hR.trans (hb.mono hR.size), hb, _, rfl, hR.size, Blk.new wx 54 (evC x)⟩⟩
        | rz + 23, h => omega
      · intro v wx hR hV
        obtain ⟨p22, h22, hp22, hk22⟩ : rowOneE 54 wr.heap.size (evC x) (v 22) wx := hV 22 (by omega)
        have h0 : v 0 = _ := hV 0 (by omega)
        simp only [fillR, Act.put, List.setIfInBounds_toArray, List.set_cons_zero, List.set_cons_succ, List.drop_succ_cons, List.drop_zero, h0, h22]
        have hu := ownsRow_only (S := []) HO.out (Only.of_below hR) (by simp)
        refine wpList_app (v := u3) (base := w.heap.size) (n := i) rfl rfl Tryz.underlying27 rev_info12 rfl (by decide) (evC x) rfl hu rfl rfl (fun _ => ⟨_, _, rfl, fun j u hu => by rw [Nat.zero_add]; exact (hk22.cell j).trans hu⟩) (evC_one _) (by omega) (by decide) (Nat.le_trans HW.out.size hR.size) ?_
        intro v5 w4 k1 k2 k3
        rw [show rowE (xs.take i) ++ evC x = rowE (xs.take (i + 1)) by rw [List.take_add_one, HX.out, Option.toList_some, rowE_snoc]] at k1
        have HF := Lib.hid (And.intro k1 ((HW.out.trans (hR.mono HW.out.size)).trans (k2.below (Nat.le_trans HW.out.size hR.size) (fun k hk => (hu.lt k (by simpa using hk)).1))))
        clear k1 k2 k3 hR hV h0 h22 hp22 hk22 hu q0 q1 q2 q3
        go_wp2_with fail
        exact ⟨⟨i + 1, by omega, by go_num, Lib.hid HF.out.1, Lib.hid HF.out.2⟩, by simp [intOf]; omega⟩
    · obtain rfl : i = n := by omega
      have HE : Hid (xs.take i = xs) := Lib.hid (by rw [← HL.out.1, List.take_length])
      have hu := HO.out
      rw [HE.out] at hu
      obtain ⟨B, d, rfl, h1⟩ := ein_row hu HL.out.1 HL.out.2 (fun j y f hy hf => (H.out.ok j y f hy hf).below HW.out)
      have HF := Lib.hid h1
      clear hu h1 HO
      go_wp2_with fail
      go_ret
      exact ⟨B, d, rfl, HF.out, HW.out⟩
end Go.Proofs.YtlpljedacohngaaGreatDoor
end
