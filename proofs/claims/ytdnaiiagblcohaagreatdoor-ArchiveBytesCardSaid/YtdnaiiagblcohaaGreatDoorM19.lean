/-
  Where a link leads, as the document tells it: the plain answer's error. Condition: the list lies in memory.
-/
import Derived.Test.YtdnaiiagblcohaaGreatDoorM18
import Derived.Test.YtdnaiiagblcohaaGreatDoorM16
import Derived.Test.YtdnaiiagblcohaaGreatDoorM8
import Derived.Test.YtdnaiiagblcohaaGreatDoorM11
section
set_option linter.unusedSimpArgs false
set_option linter.unusedVariables false
set_option maxRecDepth 100000
namespace Go.Proofs.YtdnaiiagblcohaaGreatDoor
open Go.RowKit

theorem psin_rows {w : World} {A : Option Addr} {n c : Nat} {p : Pa} (h : SIn w A n c p) (h0 : 0 < n) : ∃ g off, A = some ⟨g, off, none⟩ ∧ ∀ (j : Nat) u, (strV p)[j]? = some u → w.cell? ⟨g, off + j, none⟩ = some u := by
  obtain ⟨g, o, hA, _, hc⟩ := h.cells h0
  exact ⟨g, o, hA, fun j u hu => by obtain ⟨t, h1, rfl⟩ := strV_get hu; exact hc j t h1⟩
theorem pstrV_one (p : Pa) : ∀ u ∈ strV p, u.oneCell' = true := by
  intro u hu
  unfold strV at hu
  obtain ⟨t, _, rfl⟩ := List.mem_map.1 hu
  rfl
def pone1 (b0 : Nat) (x : ByteArray) : Value → World → Prop := fun u w => ∃ p, u = .slice (some ⟨p, 0, none⟩) 1 1 ∧ b0 ≤ p ∧ Blk w p 9 [.string x]
theorem pone1.st (b0 : Nat) (x : ByteArray) : StV (pone1 b0 x) := fun _ _ _ ⟨p, h1, h2, h3⟩ hb => ⟨p, h1, h2, h3.below hb h3.lt⟩
theorem slice0_ps (W : World) : (Instr.buildSlice 50 0 #[]).run Tryz.prog W = .ok (.slice (some ⟨W.heap.size, 0, none⟩) 0 0) (W.alloc (.cells #[] 9)) := by kernel_rfl
set_option maxHeartbeats 8000000 in
theorem rlead_any (w : World) (A : Option Addr) (n c : Nat) (p : Pa) (h : SIn w A n c p) (t : ByteArray) :
    Calls Tryz.prog 22 #[.slice A n c, .string t] w fun e w' => ∃ A' n' c', e = .returned (.tuple #[.slice A' n' c', .int .i64 (leadB p t).2]) ∧ Below w.heap.size w w' := by
  have hcap := h.cap
  have hbig := h.big
  have HR := Lib.hid (rright_any w A n c p h)
  have H0 := Lib.hid (And.intro h h.len)
  clear h
  go_enter Tryz.func22, Tryz.ntmps22
  go_wp2_with fail
  refine HR.out.mono ?_
  rintro e w0 ⟨rfl, h0⟩
  have HB0 := Lib.hid h0
  clear h0 HR
  cases hr : rightB p with
  | false =>
    have HF : Hid (leadB p t = ([], 10)) := Lib.hid (by unfold leadB; rw [hr]; rfl)
    clear hr
    go_wp2_with fail
    go_ret2
    rw [HF.out]
    exact ⟨none, 0, 0, rfl, HB0.out⟩
  | true =>
    by_cases h1 : 160 < t.size
    · have HF : Hid (leadB p t = ([], 2)) := Lib.hid (by unfold leadB; rw [hr, if_neg (by simp), if_pos h1])
      clear hr
      go_wp2_with fail
      go_ret2
      rw [HF.out]
      exact ⟨none, 0, 0, rfl, HB0.out⟩
    · have hn8 : n ≤ 8 := by
        have h2 := hr
        unfold rightB at h2
        simp only [Bool.and_eq_true, decide_eq_true_eq] at h2
        rw [← H0.out.2]
        exact h2.1
      have HE0 := Lib.hid (lead_end hr h1)
      clear hr
      have HK := Lib.hid (H0.out.1.below HB0.out)
      go_wp2_with (refine wpList_app (v := .slice (some ⟨w0.heap.size, 0, none⟩) 0 0) (base := w0.heap.size) (n := 0) rfl rfl Tryz.underlying50 str_info rfl (by decide) (strV p) rfl (own_new w0 9 1) rfl (by rw [strV_length, HK.out.len, Nat.mul_one]) (fun h0 => psin_rows (HK.out.below (pnew w0 _)) h0) (pstrV_one _) (by omega) (by decide) (by simp) ?_; intro v9 w1 k1 k2 k3; have H9 := Lib.hid (And.intro k1 k2); clear k1 k2 k3)
      have hb9 : Below w0.heap.size w0 w1 := (pnew w0 (.cells #[] 9)).trans (H9.out.2.below (by simp) (fun b hb => by simp [Value.ownBlock] at hb; omega))
      have ho := H9.out.1
      rw [Nat.zero_add, List.nil_append] at ho
      obtain ⟨P1, c1, rfl, hp1, _⟩ := SIn.of_own (p := p) ho rfl
      have HP1 := Lib.hid (And.intro hp1 (HB0.out.trans (hb9.mono HB0.out.size)))
      clear ho hb9 hp1 H9
      refine (parts_any w1 t (by omega)).mono ?_
      rintro e w2 ⟨LA, lc, rfl, hl, hlf, hlb⟩
      have HB2 := Lib.hid (HP1.out.2.trans (hlb.mono HP1.out.2.size))
      have hp2 := HP1.out.1.below hlb
      obtain ⟨g, o, rfl, hg, _⟩ := hl.cells (by rw [split_length]; omega)
      have hlen := parts_len t
      have hlcap := hl.cap
      have hlbig := hl.big
      cases hq : begP t with
      | false =>
        have h47 : ∀ h : 0 < t.size, ¬ ((t[0]'h).toNat : Int) = 47 := fun h he => by
          have := (begP_iff t).2 ⟨h, by rw [← sgAt_get t 0 h]; exact he⟩
          rw [hq] at this
          cases this
        have h48 : ∀ h : 0 < t.size, (((t[0]'h).toNat : Int) == 47) = false := fun h => by simpa using h47 h
        have hcut := cut_beg hq
        have HE : Hid (leadB p t = (match leadAll p (splitP t) with | some q => (q, 0) | none => ([], 10))) := Lib.hid (by rw [HE0.out, hq, hcut]; rfl)
        obtain ⟨L, hL⟩ : ∃ L, L = splitP t := ⟨_, rfl⟩
        obtain ⟨ln, hln⟩ : ∃ ln, ln = L.length := ⟨_, rfl⟩
        rw [← hL] at HE hl hlen hlcap ⊢
        rw [← hln] at hl hlen hlcap ⊢
        obtain ⟨oo, hoo⟩ : ∃ oo, oo = o := ⟨_, rfl⟩
        rw [← hoo] at hl ⊢
        have HLs := Lib.hid (And.intro hl hln.symm)
        have HP := Lib.hid (And.intro hn8 hp2)
        clear hl hlf hlb hp2 hq hcut hL hln hoo HE0
        by_cases hz : t.size = 0
        · have b0 : ¬ (0 : Int) < (t.size : Int) := by omega
          go_wp2_with fail
          go_loopw [6, 8] (fun pv iv wr => ∃ i m : Nat, ∃ PA pc, i ≤ ln ∧ m ≤ 8 ∧ iv = .int .i64 i ∧ pv = .slice PA m pc ∧ Hid (∃ q : Pa, leadAll p (L.take i) = some q ∧ SIn wr PA m pc q) ∧ Hid (Below w2.heap.size w2 wr)) (fun _ iv _ => ln - (intOf iv).toNat)
          case atStart => exact ⟨0, _, _, _, by omega, HP.out.1, rfl, rfl, Lib.hid ⟨p, rfl, HP.out.2⟩, Lib.hid (Below.refl _ _)⟩
          case round =>
            obtain ⟨i, m, PA, pc, hi, hm, rfl, rfl, HQ, HW⟩ := hrel
            by_cases hlt : i < ln
            · obtain ⟨x, hx⟩ := HLs.out.1.get hlt
              have q0 := pcell_below (HLs.out.1.row i x hx) HW.out
              obtain ⟨q, hq, hs⟩ := HQ.out
              have hn := lead_next hq hx
              have hql := hs.len
              have hcap := hs.cap
              have hbig := hs.big
              have H := Lib.hid (And.intro hs (And.intro hn hql))
              clear hq hs hn hx HQ hql
              have b0 : (0 : Int) ≤ (i : Int) := by omega
              have b1 : (i : Int) < (ln : Int) := by omega
              by_cases d1 : x.data.toList = [46]
              · have e1 := bt_eq d1
                have HS : Hid (leadAll p (L.take (i + 1)) = some q) := Lib.hid (by rw [H.out.2.1]; unfold leadStep; rw [if_pos d1])
                clear d1
                go_wp2_with fail
                exact ⟨⟨i + 1, m, PA, pc, by omega, hm, by go_num, rfl, Lib.hid ⟨q, HS.out, H.out.1⟩, HW⟩, by simp [intOf]; omega⟩
              · have e1 := bt_ne d1
                by_cases d2 : x.data.toList = [46, 46]
                · have e2 := bt_eq d2
                  have hdots := name_dots d2
                  by_cases hm0 : m = 0
                  · have HF : Hid (leadB p t = ([], 10)) := Lib.hid (by
                      have h1 : leadStep q x = none := by
                        unfold leadStep
                        rw [if_neg d1, if_neg (by rw [H.out.2.2]; omega), if_neg (by rw [hdots]; simp)]
                      rw [HE.out, lead_none (H.out.2.1.trans h1)])
                    subst hm0
                    clear d1 d2 hdots
                    go_wp2_with fail
                    (try rw [Exit.noGoto_ret])
                    go_ret2
                    rw [HF.out]
                    exact ⟨none, 0, 0, rfl, HB2.out.trans (HW.out.mono HB2.out.size)⟩
                  · obtain ⟨k, rfl⟩ : ∃ k, m = k + 1 := ⟨m - 1, by omega⟩
                    have HS : Hid (leadAll p (L.take (i + 1)) = some (q.take k)) := Lib.hid (by
                      rw [H.out.2.1]
                      unfold leadStep
                      rw [if_neg d1, if_pos ⟨d2, by rw [H.out.2.2]; omega⟩, H.out.2.2]
                      rfl)
                    have HK := Lib.hid (H.out.1.take (k := k) (c' := pc) (by omega) (by omega) (Nat.le_refl _))
                    have b2 : ¬ ((k + 1 : Nat) : Int) = 0 := by omega
                    have b3 : (0 : Int) ≤ (k : Int) := by omega
                    have b4 : (k : Int) ≤ ((k + 1 : Nat) : Int) := by omega
                    have b5 : (k : Int) ≤ (pc : Int) := by omega
                    clear d1 d2 hdots
                    go_wp2_with (refine wpList_app (v := .slice (some ⟨wr.heap.size, 0, none⟩) 0 0) (base := wr.heap.size) (n := 0) rfl rfl Tryz.underlying50 str_info rfl (by decide) (strV (q.take k)) rfl (own_new wr 9 1) rfl (by rw [strV_length, HK.out.len, Nat.mul_one]) (fun h0 => psin_rows (HK.out.below (pnew wr _)) h0) (pstrV_one _) (by omega) (by decide) (by simp) ?_; intro v9 w9 k1 k2 k3; have H9 := Lib.hid (And.intro k1 k2); clear k1 k2 k3)
                    have hb9 : Below wr.heap.size wr w9 := (pnew wr (.cells #[] 9)).trans (H9.out.2.below (by simp) (fun b hb => by simp [Value.ownBlock] at hb; omega))
                    have ho := H9.out.1
                    rw [Nat.zero_add, List.nil_append] at ho
                    obtain ⟨A9, c9, rfl, h9, _⟩ := SIn.of_own (p := q.take k) ho rfl
                    have HN := Lib.hid (And.intro h9 (HW.out.trans (hb9.mono HW.out.size)))
                    clear ho hb9 h9
                    exact ⟨⟨i + 1, k, A9, c9, by omega, by omega, by go_num, rfl, Lib.hid ⟨q.take k, HS.out, HN.out.1⟩, Lib.hid HN.out.2⟩, by simp [intOf]; omega⟩
                · have e2 := bt_ne d2
                  have hstep : leadStep q x = if pnameB x = true ∧ q.length < 8 then some (q ++ [x]) else none := by
                    unfold leadStep
                    rw [if_neg d1, if_neg (fun h => d2 h.1)]
                  have HST := Lib.hid (H.out.2.1.trans hstep)
                  clear d1 d2 hstep
                  go_wp2_with fail
                  refine (rname_any wr x).mono ?_
                  rintro e w3 ⟨rfl, h3⟩
                  have q3 := pcell_below q0 h3
                  have H3 := Lib.hid (And.intro (H.out.1.below h3) (HW.out.trans (h3.mono HW.out.size)))
                  clear h3 q0
                  cases hpn : pnameB x with
                  | false =>
                    have HF : Hid (leadB p t = ([], 10)) := Lib.hid (by
                      have h1 := HST.out
                      rw [hpn, if_neg (by simp)] at h1
                      rw [HE.out, lead_none h1])
                    clear hpn
                    go_wp2_with fail
                    (try rw [Exit.noGoto_ret])
                    go_ret2
                    rw [HF.out]
                    exact ⟨none, 0, 0, rfl, HB2.out.trans (H3.out.2.mono HB2.out.size)⟩
                  | true =>
                    by_cases h8 : m = 8
                    · have HF : Hid (leadB p t = ([], 10)) := Lib.hid (by
                        have h1 := HST.out
                        rw [if_neg (by rw [H.out.2.2]; omega)] at h1
                        rw [HE.out, lead_none h1])
                      subst h8
                      clear hpn
                      go_wp2_with fail
                      (try rw [Exit.noGoto_ret])
                      go_ret2
                      rw [HF.out]
                      exact ⟨none, 0, 0, rfl, HB2.out.trans (H3.out.2.mono HB2.out.size)⟩
                    · have HS : Hid (leadAll p (L.take (i + 1)) = some (q ++ [x])) := Lib.hid (by rw [HST.out, if_pos ⟨hpn, by rw [H.out.2.2]; omega⟩])
                      have b6 : ¬ (m : Int) = 8 := by omega
                      clear hpn
                      go_wp2_with fail
                      refine wp_hideQ ?_
                      intro QQ hQQ
                      refine wp_region_quickT [some 36, some 37, some 38, some 39, some 40, some 41, some 42, some 43] [noV 9 w3.heap.size, isV (.slice PA m pc), ownSV w3.heap.size 9 1 m (strV q), isV (.slice (some ⟨g, oo, none⟩) ln lc), isV (.int .i64 (i : Int)), isV (.pointer (some ⟨g, oo + i, none⟩)), isV (.string x), pone1 w3.heap.size x] 8 10 (by kernel_rfl) rfl rfl rfl rfl (by kernel_rfl) (by kernel_rfl) (by simp [isV.st, noV.st, ownSV.st, pone1.st]) ?_ ?_
                      · intro hq rz hz
                        match rz, hz with
                        | 0, _ =>
                          refine StepL.val rfl [] (by decide +kernel) ?_
                          intro v wx hR hd
                          have hb := pnew wx (.cells #[] 9)
                          exact ⟨wanted_plain rfl _, xe_ex (x_slice (qs := #[]) rfl (by simp) (slice0_ps wx)) ⟨hR.trans (hb.mono hR.size), hb, _, rfl, hR.size, Blk.new wx 9 []⟩⟩
                        | 1, _ =>
                          refine StepL.val rfl [] (by decide +kernel) ?_
                          intro v wx hR hd
                          exact ⟨wanted_plain rfl _, _, _, x_move rfl (fill_off rfl rfl), hR, Below.refl _ _, rfl⟩
                        | 2, _ =>
                          refine StepL.val rfl [0, 1] (by decide +kernel) ?_
                          intro v wx hR hd
                          obtain ⟨p0, h0, hp0, hk0⟩ : (noV 9 w3.heap.size) (v 0) wx := hd 0 (by simp)
                          have h1 : v 1 = _ := hd 1 (by simp)
                          exact ⟨wanted_plain rfl _, xe_app_zeroG (N := w3.heap.size) rfl Tryz.underlying50 str_info rfl (by decide) (hq.at_ rfl h0) hp0 hk0 (hq.at_ rfl h1) (strV q) (by rw [strV_length, H3.out.1.len, Nat.mul_one]) (fun h0 => psin_rows (H3.out.1.below hR) h0) (pstrV_one _) (by omega) (by decide) hR.size (fun R' c' w' k1 k2 => ⟨hR.trans (k2.mono hR.size), k2, _, _, rfl, k1⟩)⟩
                        | 3, _ =>
                          refine StepL.val rfl [] (by decide +kernel) ?_
                          intro v wx hR hd
                          exact ⟨wanted_plain rfl _, _, _, x_move rfl (fill_off rfl rfl), hR, Below.refl _ _, rfl⟩
                        | 4, _ =>
                          refine StepL.val rfl [] (by decide +kernel) ?_
                          intro v wx hR hd
                          exact ⟨wanted_plain rfl _, _, _, x_move rfl (fill_off rfl rfl), hR, Below.refl _ _, rfl⟩
                        | 5, _ =>
                          refine StepL.val rfl [3, 4] (by decide +kernel) ?_
                          intro v wx hR hd
                          have h3 : v 3 = _ := hd 3 (by simp)
                          have h4 : v 4 = _ := hd 4 (by simp)
                          exact ⟨wanted_plain rfl _, _, _, x_index rfl (hq.at_ rfl h3) (hq.at_ rfl h4) (r_index (e := 9) (size := 1) (by kernel_rfl) (by kernel_rfl) (by omega) (by omega) (by simp)), hR, Below.refl _ _, rfl⟩
                        | 6, _ =>
                          refine StepL.val rfl [5] (by decide +kernel) ?_
                          intro v wx hR hd
                          have h5 : v 5 = _ := hd 5 (by simp)
                          exact ⟨wanted_plain rfl _, _, _, x_load rfl (hq.at_ rfl h5) (r_load (by kernel_rfl) (pcell_below q3 hR)), hR, Below.refl _ _, rfl⟩
                        | 7, _ =>
                          refine StepL.val rfl [6] (by decide +kernel) ?_
                          intro v wx hR hd
                          have h6 : v 6 = _ := hd 6 (by simp)
                          have hb := pnew wx (.cells #[.string x] 9)
                          exact ⟨wanted_plain rfl _, xe_ex (x_slice rfl (pairs_1 (hq.at_ rfl h6)) (build_one wx x)) ⟨hR.trans (hb.mono hR.size), hb, _, rfl, hR.size, Blk.new wx 9 [.string x]⟩⟩
                        | rz + 8, h => omega
                      · intro v wx hR hV
                        obtain ⟨R2, c2, h2, ho2⟩ : ownSV w3.heap.size 9 1 m (strV q) (v 2) wx := hV 2 (by omega)
                        obtain ⟨p7, h7, hp7, hk7⟩ : pone1 w3.heap.size x (v 7) wx := hV 7 (by omega)
                        simp only [fillR, Act.put, List.setIfInBounds_toArray, List.set_cons_zero, List.set_cons_succ, List.drop_succ_cons, List.drop_zero, h2, h7]
                        refine wpList_app (v := .slice R2 m c2) (base := w3.heap.size) (n := m) rfl rfl Tryz.underlying50 str_info rfl (by decide) [.string x] rfl ho2 rfl rfl (fun _ => ⟨_, _, rfl, fun j u hu => by rw [Nat.zero_add]; exact (hk7.cell j).trans hu⟩) (by simp [Value.oneCell']) (by omega) (by decide) hR.size ?_
                        intro v9 w4 k1 k2 k3
                        have hb4 : Below w3.heap.size w3 w4 := hR.trans (k2.below hR.size (fun b hb => (ho2.lt b (by simpa using hb)).1))
                        obtain ⟨A9, c9, rfl, h9, _⟩ := SIn.of_own (p := q ++ [x]) k1 (by simp [strV])
                        have H9 := Lib.hid (And.intro h9 (H3.out.2.trans (hb4.mono H3.out.2.size)))
                        clear k1 k2 k3 hb4 h9 hR hV h2 ho2 h7 hp7 hk7
                        go_wp2_with fail
                        exact ⟨⟨i + 1, m + 1, A9, c9, by omega, by omega, by go_num, rfl, Lib.hid ⟨q ++ [x], HS.out, H9.out.1⟩, Lib.hid H9.out.2⟩, by simp [intOf]; omega⟩
            · obtain rfl : i = ln := by omega
              have HF : Hid ((leadB p t).2 = 0) := Lib.hid (by
                obtain ⟨q, hq, _⟩ := HQ.out
                rw [List.take_of_length_le (by rw [HLs.out.2]; exact Nat.le_refl _)] at hq
                rw [HE.out, hq])
              go_wp2_with fail
              go_ret2
              rw [HF.out]
              exact ⟨_, _, _, rfl, HB2.out.trans (HW.out.mono HB2.out.size)⟩
        · have b0 : (0 : Int) < (t.size : Int) := by omega
          go_wp2_with fail
          go_loopw [6, 8] (fun pv iv wr => ∃ i m : Nat, ∃ PA pc, i ≤ ln ∧ m ≤ 8 ∧ iv = .int .i64 i ∧ pv = .slice PA m pc ∧ Hid (∃ q : Pa, leadAll p (L.take i) = some q ∧ SIn wr PA m pc q) ∧ Hid (Below w2.heap.size w2 wr)) (fun _ iv _ => ln - (intOf iv).toNat)
          case atStart => exact ⟨0, _, _, _, by omega, HP.out.1, rfl, rfl, Lib.hid ⟨p, rfl, HP.out.2⟩, Lib.hid (Below.refl _ _)⟩
          case round =>
            obtain ⟨i, m, PA, pc, hi, hm, rfl, rfl, HQ, HW⟩ := hrel
            by_cases hlt : i < ln
            · obtain ⟨x, hx⟩ := HLs.out.1.get hlt
              have q0 := pcell_below (HLs.out.1.row i x hx) HW.out
              obtain ⟨q, hq, hs⟩ := HQ.out
              have hn := lead_next hq hx
              have hql := hs.len
              have hcap := hs.cap
              have hbig := hs.big
              have H := Lib.hid (And.intro hs (And.intro hn hql))
              clear hq hs hn hx HQ hql
              have b0 : (0 : Int) ≤ (i : Int) := by omega
              have b1 : (i : Int) < (ln : Int) := by omega
              by_cases d1 : x.data.toList = [46]
              · have e1 := bt_eq d1
                have HS : Hid (leadAll p (L.take (i + 1)) = some q) := Lib.hid (by rw [H.out.2.1]; unfold leadStep; rw [if_pos d1])
                clear d1
                go_wp2_with fail
                exact ⟨⟨i + 1, m, PA, pc, by omega, hm, by go_num, rfl, Lib.hid ⟨q, HS.out, H.out.1⟩, HW⟩, by simp [intOf]; omega⟩
              · have e1 := bt_ne d1
                by_cases d2 : x.data.toList = [46, 46]
                · have e2 := bt_eq d2
                  have hdots := name_dots d2
                  by_cases hm0 : m = 0
                  · have HF : Hid (leadB p t = ([], 10)) := Lib.hid (by
                      have h1 : leadStep q x = none := by
                        unfold leadStep
                        rw [if_neg d1, if_neg (by rw [H.out.2.2]; omega), if_neg (by rw [hdots]; simp)]
                      rw [HE.out, lead_none (H.out.2.1.trans h1)])
                    subst hm0
                    clear d1 d2 hdots
                    go_wp2_with fail
                    (try rw [Exit.noGoto_ret])
                    go_ret2
                    rw [HF.out]
                    exact ⟨none, 0, 0, rfl, HB2.out.trans (HW.out.mono HB2.out.size)⟩
                  · obtain ⟨k, rfl⟩ : ∃ k, m = k + 1 := ⟨m - 1, by omega⟩
                    have HS : Hid (leadAll p (L.take (i + 1)) = some (q.take k)) := Lib.hid (by
                      rw [H.out.2.1]
                      unfold leadStep
                      rw [if_neg d1, if_pos ⟨d2, by rw [H.out.2.2]; omega⟩, H.out.2.2]
                      rfl)
                    have HK := Lib.hid (H.out.1.take (k := k) (c' := pc) (by omega) (by omega) (Nat.le_refl _))
                    have b2 : ¬ ((k + 1 : Nat) : Int) = 0 := by omega
                    have b3 : (0 : Int) ≤ (k : Int) := by omega
                    have b4 : (k : Int) ≤ ((k + 1 : Nat) : Int) := by omega
                    have b5 : (k : Int) ≤ (pc : Int) := by omega
                    clear d1 d2 hdots
                    go_wp2_with (refine wpList_app (v := .slice (some ⟨wr.heap.size, 0, none⟩) 0 0) (base := wr.heap.size) (n := 0) rfl rfl Tryz.underlying50 str_info rfl (by decide) (strV (q.take k)) rfl (own_new wr 9 1) rfl (by rw [strV_length, HK.out.len, Nat.mul_one]) (fun h0 => psin_rows (HK.out.below (pnew wr _)) h0) (pstrV_one _) (by omega) (by decide) (by simp) ?_; intro v9 w9 k1 k2 k3; have H9 := Lib.hid (And.intro k1 k2); clear k1 k2 k3)
                    have hb9 : Below wr.heap.size wr w9 := (pnew wr (.cells #[] 9)).trans (H9.out.2.below (by simp) (fun b hb => by simp [Value.ownBlock] at hb; omega))
                    have ho := H9.out.1
                    rw [Nat.zero_add, List.nil_append] at ho
                    obtain ⟨A9, c9, rfl, h9, _⟩ := SIn.of_own (p := q.take k) ho rfl
                    have HN := Lib.hid (And.intro h9 (HW.out.trans (hb9.mono HW.out.size)))
                    clear ho hb9 h9
                    exact ⟨⟨i + 1, k, A9, c9, by omega, by omega, by go_num, rfl, Lib.hid ⟨q.take k, HS.out, HN.out.1⟩, Lib.hid HN.out.2⟩, by simp [intOf]; omega⟩
                · have e2 := bt_ne d2
                  have hstep : leadStep q x = if pnameB x = true ∧ q.length < 8 then some (q ++ [x]) else none := by
                    unfold leadStep
                    rw [if_neg d1, if_neg (fun h => d2 h.1)]
                  have HST := Lib.hid (H.out.2.1.trans hstep)
                  clear d1 d2 hstep
                  go_wp2_with fail
                  refine (rname_any wr x).mono ?_
                  rintro e w3 ⟨rfl, h3⟩
                  have q3 := pcell_below q0 h3
                  have H3 := Lib.hid (And.intro (H.out.1.below h3) (HW.out.trans (h3.mono HW.out.size)))
                  clear h3 q0
                  cases hpn : pnameB x with
                  | false =>
                    have HF : Hid (leadB p t = ([], 10)) := Lib.hid (by
                      have h1 := HST.out
                      rw [hpn, if_neg (by simp)] at h1
                      rw [HE.out, lead_none h1])
                    clear hpn
                    go_wp2_with fail
                    (try rw [Exit.noGoto_ret])
                    go_ret2
                    rw [HF.out]
                    exact ⟨none, 0, 0, rfl, HB2.out.trans (H3.out.2.mono HB2.out.size)⟩
                  | true =>
                    by_cases h8 : m = 8
                    · have HF : Hid (leadB p t = ([], 10)) := Lib.hid (by
                        have h1 := HST.out
                        rw [if_neg (by rw [H.out.2.2]; omega)] at h1
                        rw [HE.out, lead_none h1])
                      subst h8
                      clear hpn
                      go_wp2_with fail
                      (try rw [Exit.noGoto_ret])
                      go_ret2
                      rw [HF.out]
                      exact ⟨none, 0, 0, rfl, HB2.out.trans (H3.out.2.mono HB2.out.size)⟩
                    · have HS : Hid (leadAll p (L.take (i + 1)) = some (q ++ [x])) := Lib.hid (by rw [HST.out, if_pos ⟨hpn, by rw [H.out.2.2]; omega⟩])
                      have b6 : ¬ (m : Int) = 8 := by omega
                      clear hpn
                      go_wp2_with fail
                      refine wp_hideQ ?_
                      intro QQ hQQ
                      refine wp_region_quickT [some 36, some 37, some 38, some 39, some 40, some 41, some 42, some 43] [noV 9 w3.heap.size, isV (.slice PA m pc), ownSV w3.heap.size 9 1 m (strV q), isV (.slice (some ⟨g, oo, none⟩) ln lc), isV (.int .i64 (i : Int)), isV (.pointer (some ⟨g, oo + i, none⟩)), isV (.string x), pone1 w3.heap.size x] 8 10 (by kernel_rfl) rfl rfl rfl rfl (by kernel_rfl) (by kernel_rfl) (by simp [isV.st, noV.st, ownSV.st, pone1.st]) ?_ ?_
                      · intro hq rz hz
                        match rz, hz with
                        | 0, _ =>
                          refine StepL.val rfl [] (by decide +kernel) ?_
                          intro v wx hR hd
                          have hb := pnew wx (.cells #[] 9)
                          exact ⟨wanted_plain rfl _, xe_ex (x_slice (qs := #[]) rfl (by simp) (slice0_ps wx)) ⟨hR.trans (hb.mono hR.size), hb, _, rfl, hR.size, Blk.new wx 9 []⟩⟩
                        | 1, _ =>
                          refine StepL.val rfl [] (by decide +kernel) ?_
                          intro v wx hR hd
                          exact ⟨wanted_plain rfl _, _, _, x_move rfl (fill_off rfl rfl), hR, Below.refl _ _, rfl⟩
                        | 2, _ =>
                          refine StepL.val rfl [0, 1] (by decide +kernel) ?_
                          intro v wx hR hd
                          obtain ⟨p0, h0, hp0, hk0⟩ : (noV 9 w3.heap.size) (v 0) wx := hd 0 (by simp)
                          have h1 : v 1 = _ := hd 1 (by simp)
                          exact ⟨wanted_plain rfl _, xe_app_zeroG (N := w3.heap.size) rfl Tryz.underlying50 str_info rfl (by decide) (hq.at_ rfl h0) hp0 hk0 (hq.at_ rfl h1) (strV q) (by rw [strV_length, H3.out.1.len, Nat.mul_one]) (fun h0 => psin_rows (H3.out.1.below hR) h0) (pstrV_one _) (by omega) (by decide) hR.size (fun R' c' w' k1 k2 => ⟨hR.trans (k2.mono hR.size), k2, _, _, rfl, k1⟩)⟩
                        | 3, _ =>
                          refine StepL.val rfl [] (by decide +kernel) ?_
                          intro v wx hR hd
                          exact ⟨wanted_plain rfl _, _, _, x_move rfl (fill_off rfl rfl), hR, Below.refl _ _, rfl⟩
                        | 4, _ =>
                          refine StepL.val rfl [] (by decide +kernel) ?_
                          intro v wx hR hd
                          exact ⟨wanted_plain rfl _, _, _, x_move rfl (fill_off rfl rfl), hR, Below.refl _ _, rfl⟩
                        | 5, _ =>
                          refine StepL.val rfl [3, 4] (by decide +kernel) ?_
                          intro v wx hR hd
                          have h3 : v 3 = _ := hd 3 (by simp)
                          have h4 : v 4 = _ := hd 4 (by simp)
                          exact ⟨wanted_plain rfl _, _, _, x_index rfl (hq.at_ rfl h3) (hq.at_ rfl h4) (r_index (e := 9) (size := 1) (by kernel_rfl) (by kernel_rfl) (by omega) (by omega) (by simp)), hR, Below.refl _ _, rfl⟩
                        | 6, _ =>
                          refine StepL.val rfl [5] (by decide +kernel) ?_
                          intro v wx hR hd
                          have h5 : v 5 = _ := hd 5 (by simp)
                          exact ⟨wanted_plain rfl _, _, _, x_load rfl (hq.at_ rfl h5) (r_load (by kernel_rfl) (pcell_below q3 hR)), hR, Below.refl _ _, rfl⟩
                        | 7, _ =>
                          refine StepL.val rfl [6] (by decide +kernel) ?_
                          intro v wx hR hd
                          have h6 : v 6 = _ := hd 6 (by simp)
                          have hb := pnew wx (.cells #[.string x] 9)
                          exact ⟨wanted_plain rfl _, xe_ex (x_slice rfl (pairs_1 (hq.at_ rfl h6)) (build_one wx x)) ⟨hR.trans (hb.mono hR.size), hb, _, rfl, hR.size, Blk.new wx 9 [.string x]⟩⟩
                        | rz + 8, h => omega
                      · intro v wx hR hV
                        obtain ⟨R2, c2, h2, ho2⟩ : ownSV w3.heap.size 9 1 m (strV q) (v 2) wx := hV 2 (by omega)
                        obtain ⟨p7, h7, hp7, hk7⟩ : pone1 w3.heap.size x (v 7) wx := hV 7 (by omega)
                        simp only [fillR, Act.put, List.setIfInBounds_toArray, List.set_cons_zero, List.set_cons_succ, List.drop_succ_cons, List.drop_zero, h2, h7]
                        refine wpList_app (v := .slice R2 m c2) (base := w3.heap.size) (n := m) rfl rfl Tryz.underlying50 str_info rfl (by decide) [.string x] rfl ho2 rfl rfl (fun _ => ⟨_, _, rfl, fun j u hu => by rw [Nat.zero_add]; exact (hk7.cell j).trans hu⟩) (by simp [Value.oneCell']) (by omega) (by decide) hR.size ?_
                        intro v9 w4 k1 k2 k3
                        have hb4 : Below w3.heap.size w3 w4 := hR.trans (k2.below hR.size (fun b hb => (ho2.lt b (by simpa using hb)).1))
                        obtain ⟨A9, c9, rfl, h9, _⟩ := SIn.of_own (p := q ++ [x]) k1 (by simp [strV])
                        have H9 := Lib.hid (And.intro h9 (H3.out.2.trans (hb4.mono H3.out.2.size)))
                        clear k1 k2 k3 hb4 h9 hR hV h2 ho2 h7 hp7 hk7
                        go_wp2_with fail
                        exact ⟨⟨i + 1, m + 1, A9, c9, by omega, by omega, by go_num, rfl, Lib.hid ⟨q ++ [x], HS.out, H9.out.1⟩, Lib.hid H9.out.2⟩, by simp [intOf]; omega⟩
            · obtain rfl : i = ln := by omega
              have HF : Hid ((leadB p t).2 = 0) := Lib.hid (by
                obtain ⟨q, hq, _⟩ := HQ.out
                rw [List.take_of_length_le (by rw [HLs.out.2]; exact Nat.le_refl _)] at hq
                rw [HE.out, hq])
              go_wp2_with fail
              go_ret2
              rw [HF.out]
              exact ⟨_, _, _, rfl, HB2.out.trans (HW.out.mono HB2.out.size)⟩
      | true =>
        obtain ⟨hz, h47⟩ := (begP_iff t).1 hq
        have h48 : ∀ h : 0 < t.size, ((t[0]'h).toNat : Int) = 47 := fun h => by rw [sgAt_get t 0 h]; exact h47
        have HE : Hid (leadB p t = (match leadAll [] (splitP (cutP t)) with | some q => (q, 0) | none => ([], 10))) := Lib.hid (by rw [HE0.out, hq]; rfl)
        have hsp := split_beg hq
        have hl1 : 1 ≤ (splitP (cutP t)).length := by rw [split_length]; omega
        obtain ⟨L, hL⟩ : ∃ L, L = splitP (cutP t) := ⟨_, rfl⟩
        rw [← hL] at HE hsp hl1
        have hd := hl.drop (k := 1) (by rw [hsp]; simp)
        rw [hsp] at hd hlcap hlen ⊢
        simp only [List.length_cons, List.drop_succ_cons, List.drop_zero, Nat.add_sub_cancel, if_neg (show ¬ lc = 1 by simp at hlcap; omega), Option.map_some, paddr] at hd hlcap hlen ⊢
        obtain ⟨ln, hln⟩ : ∃ ln, ln = L.length := ⟨_, rfl⟩
        rw [← hln] at hd hlen hlcap hl1 ⊢
        obtain ⟨oo, hoo⟩ : ∃ oo, oo = o + 1 := ⟨_, rfl⟩
        obtain ⟨l2, hl2⟩ : ∃ l2, l2 = lc - 1 := ⟨_, rfl⟩
        rw [← hoo, ← hl2] at hd
        have HOO := Lib.hid (And.intro hoo hl2)
        have HLs := Lib.hid (And.intro hd hln.symm)
        have HP : Hid (0 ≤ 8 ∧ SIn w2 none 0 0 []) := Lib.hid ⟨by omega, SIn.none _ _ (by omega) (fun _ => rfl)⟩
        have b0 : (0 : Int) < (t.size : Int) := by omega
        have b2 : (1 : Int) ≤ ((ln + 1 : Nat) : Int) := by omega
        have b3 : ((ln + 1 : Nat) : Int) ≤ (lc : Int) := by omega
        have b4 : ¬ lc = 1 := by omega
        have b5 : (1 : Int) ≤ (ln : Int) + 1 := by omega
        have b6 : (ln : Int) + 1 ≤ (lc : Int) := by omega
        have b7 : ¬ (lc : Int) = 1 := by omega
        clear hl hd hlf hlb hp2 hq hL hln HE0 hsp h47 hoo hl2
        go_wp2_with fail
        go_region_held3 (fun _ => True) (trivial) (first | go_in)
        rw [← HOO.out.1, ← HOO.out.2]
        go_wp2_with fail
        go_loopw [6, 8] (fun pv iv wr => ∃ i m : Nat, ∃ PA pc, i ≤ ln ∧ m ≤ 8 ∧ iv = .int .i64 i ∧ pv = .slice PA m pc ∧ Hid (∃ q : Pa, leadAll ([] : Pa) (L.take i) = some q ∧ SIn wr PA m pc q) ∧ Hid (Below w2.heap.size w2 wr)) (fun _ iv _ => ln - (intOf iv).toNat)
        case atStart => exact ⟨0, _, _, _, by omega, HP.out.1, rfl, rfl, Lib.hid ⟨([] : Pa), rfl, HP.out.2.below (pdrew w2)⟩, Lib.hid (pdrew w2)⟩
        case round =>
          obtain ⟨i, m, PA, pc, hi, hm, rfl, rfl, HQ, HW⟩ := hrel
          by_cases hlt : i < ln
          · obtain ⟨x, hx⟩ := HLs.out.1.get hlt
            have q0 := pcell_below (HLs.out.1.row i x hx) HW.out
            obtain ⟨q, hq, hs⟩ := HQ.out
            have hn := lead_next hq hx
            have hql := hs.len
            have hcap := hs.cap
            have hbig := hs.big
            have H := Lib.hid (And.intro hs (And.intro hn hql))
            clear hq hs hn hx HQ hql
            have b0 : (0 : Int) ≤ (i : Int) := by omega
            have b1 : (i : Int) < (ln : Int) := by omega
            by_cases d1 : x.data.toList = [46]
            · have e1 := bt_eq d1
              have HS : Hid (leadAll ([] : Pa) (L.take (i + 1)) = some q) := Lib.hid (by rw [H.out.2.1]; unfold leadStep; rw [if_pos d1])
              clear d1
              go_wp2_with fail
              exact ⟨⟨i + 1, m, PA, pc, by omega, hm, by go_num, rfl, Lib.hid ⟨q, HS.out, H.out.1⟩, HW⟩, by simp [intOf]; omega⟩
            · have e1 := bt_ne d1
              by_cases d2 : x.data.toList = [46, 46]
              · have e2 := bt_eq d2
                have hdots := name_dots d2
                by_cases hm0 : m = 0
                · have HF : Hid (leadB p t = ([], 10)) := Lib.hid (by
                    have h1 : leadStep q x = none := by
                      unfold leadStep
                      rw [if_neg d1, if_neg (by rw [H.out.2.2]; omega), if_neg (by rw [hdots]; simp)]
                    rw [HE.out, lead_none (H.out.2.1.trans h1)])
                  subst hm0
                  clear d1 d2 hdots
                  go_wp2_with fail
                  (try rw [Exit.noGoto_ret])
                  go_ret2
                  rw [HF.out]
                  exact ⟨none, 0, 0, rfl, HB2.out.trans (HW.out.mono HB2.out.size)⟩
                · obtain ⟨k, rfl⟩ : ∃ k, m = k + 1 := ⟨m - 1, by omega⟩
                  have HS : Hid (leadAll ([] : Pa) (L.take (i + 1)) = some (q.take k)) := Lib.hid (by
                    rw [H.out.2.1]
                    unfold leadStep
                    rw [if_neg d1, if_pos ⟨d2, by rw [H.out.2.2]; omega⟩, H.out.2.2]
                    rfl)
                  have HK := Lib.hid (H.out.1.take (k := k) (c' := pc) (by omega) (by omega) (Nat.le_refl _))
                  have b2 : ¬ ((k + 1 : Nat) : Int) = 0 := by omega
                  have b3 : (0 : Int) ≤ (k : Int) := by omega
                  have b4 : (k : Int) ≤ ((k + 1 : Nat) : Int) := by omega
                  have b5 : (k : Int) ≤ (pc : Int) := by omega
                  clear d1 d2 hdots
                  go_wp2_with (refine wpList_app (v := .slice (some ⟨wr.heap.size, 0, none⟩) 0 0) (base := wr.heap.size) (n := 0) rfl rfl Tryz.underlying50 str_info rfl (by decide) (strV (q.take k)) rfl (own_new wr 9 1) rfl (by rw [strV_length, HK.out.len, Nat.mul_one]) (fun h0 => psin_rows (HK.out.below (pnew wr _)) h0) (pstrV_one _) (by omega) (by decide) (by simp) ?_; intro v9 w9 k1 k2 k3; have H9 := Lib.hid (And.intro k1 k2); clear k1 k2 k3)
                  have hb9 : Below wr.heap.size wr w9 := (pnew wr (.cells #[] 9)).trans (H9.out.2.below (by simp) (fun b hb => by simp [Value.ownBlock] at hb; omega))
                  have ho := H9.out.1
                  rw [Nat.zero_add, List.nil_append] at ho
                  obtain ⟨A9, c9, rfl, h9, _⟩ := SIn.of_own (p := q.take k) ho rfl
                  have HN := Lib.hid (And.intro h9 (HW.out.trans (hb9.mono HW.out.size)))
                  clear ho hb9 h9
                  exact ⟨⟨i + 1, k, A9, c9, by omega, by omega, by go_num, rfl, Lib.hid ⟨q.take k, HS.out, HN.out.1⟩, Lib.hid HN.out.2⟩, by simp [intOf]; omega⟩
              · have e2 := bt_ne d2
                have hstep : leadStep q x = if pnameB x = true ∧ q.length < 8 then some (q ++ [x]) else none := by
                  unfold leadStep
                  rw [if_neg d1, if_neg (fun h => d2 h.1)]
                have HST := Lib.hid (H.out.2.1.trans hstep)
                clear d1 d2 hstep
                go_wp2_with fail
                refine (rname_any wr x).mono ?_
                rintro e w3 ⟨rfl, h3⟩
                have q3 := pcell_below q0 h3
                have H3 := Lib.hid (And.intro (H.out.1.below h3) (HW.out.trans (h3.mono HW.out.size)))
                clear h3 q0
                cases hpn : pnameB x with
                | false =>
                  have HF : Hid (leadB p t = ([], 10)) := Lib.hid (by
                    have h1 := HST.out
                    rw [hpn, if_neg (by simp)] at h1
                    rw [HE.out, lead_none h1])
                  clear hpn
                  go_wp2_with fail
                  (try rw [Exit.noGoto_ret])
                  go_ret2
                  rw [HF.out]
                  exact ⟨none, 0, 0, rfl, HB2.out.trans (H3.out.2.mono HB2.out.size)⟩
                | true =>
                  by_cases h8 : m = 8
                  · have HF : Hid (leadB p t = ([], 10)) := Lib.hid (by
                      have h1 := HST.out
                      rw [if_neg (by rw [H.out.2.2]; omega)] at h1
                      rw [HE.out, lead_none h1])
                    subst h8
                    clear hpn
                    go_wp2_with fail
                    (try rw [Exit.noGoto_ret])
                    go_ret2
                    rw [HF.out]
                    exact ⟨none, 0, 0, rfl, HB2.out.trans (H3.out.2.mono HB2.out.size)⟩
                  · have HS : Hid (leadAll ([] : Pa) (L.take (i + 1)) = some (q ++ [x])) := Lib.hid (by rw [HST.out, if_pos ⟨hpn, by rw [H.out.2.2]; omega⟩])
                    have b6 : ¬ (m : Int) = 8 := by omega
                    clear hpn
                    go_wp2_with fail
                    refine wp_hideQ ?_
                    intro QQ hQQ
                    refine wp_region_quickT [some 36, some 37, some 38, some 39, some 40, some 41, some 42, some 43] [noV 9 w3.heap.size, isV (.slice PA m pc), ownSV w3.heap.size 9 1 m (strV q), isV (.slice (some ⟨g, oo, none⟩) ln l2), isV (.int .i64 (i : Int)), isV (.pointer (some ⟨g, oo + i, none⟩)), isV (.string x), pone1 w3.heap.size x] 8 10 (by kernel_rfl) rfl rfl rfl rfl (by kernel_rfl) (by kernel_rfl) (by simp [isV.st, noV.st, ownSV.st, pone1.st]) ?_ ?_
                    · intro hq rz hz
                      match rz, hz with
                      | 0, _ =>
                        refine StepL.val rfl [] (by decide +kernel) ?_
                        intro v wx hR hd
                        have hb := pnew wx (.cells #[] 9)
                        exact ⟨wanted_plain rfl _, xe_ex (x_slice (qs := #[]) rfl (by simp) (slice0_ps wx)) ⟨hR.trans (hb.mono hR.size), hb, _, rfl, hR.size, Blk.new wx 9 []⟩⟩
                      | 1, _ =>
                        refine StepL.val rfl [] (by decide +kernel) ?_
                        intro v wx hR hd
                        exact ⟨wanted_plain rfl _, _, _, x_move rfl (fill_off rfl rfl), hR, Below.refl _ _, rfl⟩
                      | 2, _ =>
                        refine StepL.val rfl [0, 1] (by decide +kernel) ?_
                        intro v wx hR hd
                        obtain ⟨p0, h0, hp0, hk0⟩ : (noV 9 w3.heap.size) (v 0) wx := hd 0 (by simp)
                        have h1 : v 1 = _ := hd 1 (by simp)
                        exact ⟨wanted_plain rfl _, xe_app_zeroG (N := w3.heap.size) rfl Tryz.underlying50 str_info rfl (by decide) (hq.at_ rfl h0) hp0 hk0 (hq.at_ rfl h1) (strV q) (by rw [strV_length, H3.out.1.len, Nat.mul_one]) (fun h0 => psin_rows (H3.out.1.below hR) h0) (pstrV_one _) (by omega) (by decide) hR.size (fun R' c' w' k1 k2 => ⟨hR.trans (k2.mono hR.size), k2, _, _, rfl, k1⟩)⟩
                      | 3, _ =>
                        refine StepL.val rfl [] (by decide +kernel) ?_
                        intro v wx hR hd
                        exact ⟨wanted_plain rfl _, _, _, x_move rfl (fill_off rfl rfl), hR, Below.refl _ _, rfl⟩
                      | 4, _ =>
                        refine StepL.val rfl [] (by decide +kernel) ?_
                        intro v wx hR hd
                        exact ⟨wanted_plain rfl _, _, _, x_move rfl (fill_off rfl rfl), hR, Below.refl _ _, rfl⟩
                      | 5, _ =>
                        refine StepL.val rfl [3, 4] (by decide +kernel) ?_
                        intro v wx hR hd
                        have h3 : v 3 = _ := hd 3 (by simp)
                        have h4 : v 4 = _ := hd 4 (by simp)
                        exact ⟨wanted_plain rfl _, _, _, x_index rfl (hq.at_ rfl h3) (hq.at_ rfl h4) (r_index (e := 9) (size := 1) (by kernel_rfl) (by kernel_rfl) (by omega) (by omega) (by simp)), hR, Below.refl _ _, rfl⟩
                      | 6, _ =>
                        refine StepL.val rfl [5] (by decide +kernel) ?_
                        intro v wx hR hd
                        have h5 : v 5 = _ := hd 5 (by simp)
                        exact ⟨wanted_plain rfl _, _, _, x_load rfl (hq.at_ rfl h5) (r_load (by kernel_rfl) (pcell_below q3 hR)), hR, Below.refl _ _, rfl⟩
                      | 7, _ =>
                        refine StepL.val rfl [6] (by decide +kernel) ?_
                        intro v wx hR hd
                        have h6 : v 6 = _ := hd 6 (by simp)
                        have hb := pnew wx (.cells #[.string x] 9)
                        exact ⟨wanted_plain rfl _, xe_ex (x_slice rfl (pairs_1 (hq.at_ rfl h6)) (build_one wx x)) ⟨hR.trans (hb.mono hR.size), hb, _, rfl, hR.size, Blk.new wx 9 [.string x]⟩⟩
                      | rz + 8, h => omega
                    · intro v wx hR hV
                      obtain ⟨R2, c2, h2, ho2⟩ : ownSV w3.heap.size 9 1 m (strV q) (v 2) wx := hV 2 (by omega)
                      obtain ⟨p7, h7, hp7, hk7⟩ : pone1 w3.heap.size x (v 7) wx := hV 7 (by omega)
                      simp only [fillR, Act.put, List.setIfInBounds_toArray, List.set_cons_zero, List.set_cons_succ, List.drop_succ_cons, List.drop_zero, h2, h7]
                      refine wpList_app (v := .slice R2 m c2) (base := w3.heap.size) (n := m) rfl rfl Tryz.underlying50 str_info rfl (by decide) [.string x] rfl ho2 rfl rfl (fun _ => ⟨_, _, rfl, fun j u hu => by rw [Nat.zero_add]; exact (hk7.cell j).trans hu⟩) (by simp [Value.oneCell']) (by omega) (by decide) hR.size ?_
                      intro v9 w4 k1 k2 k3
                      have hb4 : Below w3.heap.size w3 w4 := hR.trans (k2.below hR.size (fun b hb => (ho2.lt b (by simpa using hb)).1))
                      obtain ⟨A9, c9, rfl, h9, _⟩ := SIn.of_own (p := q ++ [x]) k1 (by simp [strV])
                      have H9 := Lib.hid (And.intro h9 (H3.out.2.trans (hb4.mono H3.out.2.size)))
                      clear k1 k2 k3 hb4 h9 hR hV h2 ho2 h7 hp7 hk7
                      go_wp2_with fail
                      exact ⟨⟨i + 1, m + 1, A9, c9, by omega, by omega, by go_num, rfl, Lib.hid ⟨q ++ [x], HS.out, H9.out.1⟩, Lib.hid H9.out.2⟩, by simp [intOf]; omega⟩
          · obtain rfl : i = ln := by omega
            have HF : Hid ((leadB p t).2 = 0) := Lib.hid (by
              obtain ⟨q, hq, _⟩ := HQ.out
              rw [List.take_of_length_le (by rw [HLs.out.2]; exact Nat.le_refl _)] at hq
              rw [HE.out, hq])
            go_wp2_with fail
            go_ret2
            rw [HF.out]
            exact ⟨_, _, _, rfl, HB2.out.trans (HW.out.mono HB2.out.size)⟩
end Go.Proofs.YtdnaiiagblcohaaGreatDoor
end

/-
  The document's seal of an entry: the digest's first bytes. Condition: the entry lies in memory, and is no longer than what is made.
-/

section
set_option linter.unusedSimpArgs false
set_option linter.unusedVariables false
set_option maxRecDepth 100000
namespace Go.Proofs.YtdnaiiagblcohaaGreatDoor
open Go.RowKit

theorem txtsN_two {w : World} {q g : Nat} {A B : Option Addr} {n c m k : Nat} {d f : List B8} (hk : Blk w g 26 [.slice A n c, .slice B m k]) (h : DIn w A n c d) (h2 : DIn w B m k f) (hq : w.heap.size ≤ q) : TxtsN w q (some ⟨g, 0, none⟩) 2 [d, f] := by
  have hn : ∀ {A : Option Addr} {n c : Nat} {d : List B8}, DIn w A n c d → A = none → n = 0 ∧ c = 0 := fun h ha => by have h1 := h.nil ha; have h2 := h.cap; omega
  refine ⟨rfl, fun _ => ⟨g, 0, rfl, by have := hk.lt; omega, fun i x hx => ?_⟩⟩
  match i, hx with
  | 0, hx =>
    simp only [List.getElem?_cons_zero, Option.some.injEq] at hx
    subst hx
    exact ⟨A, n, c, (hk.cell 0).trans rfl, h.txt hq, hn h⟩
  | 1, hx =>
    simp only [List.getElem?_cons_succ, List.getElem?_cons_zero, Option.some.injEq] at hx
    subst hx
    exact ⟨B, m, k, (hk.cell 1).trans rfl, h2.txt hq, hn h2⟩
  | i + 2, hx => simp at hx
set_option maxHeartbeats 4000000 in
theorem seal_any (w : World) (x : Ev) (e : En) (h : EvOk w x e) (hj : (joinP e.path).size ≤ 900) (hdn : e.data.length ≤ 1000) :
    Calls Tryz.prog 46 #[.agg Tbl.toArray, evV x] w fun en w' => ∃ A, en = .returned (.slice A 8 32) ∧ DIn w' A 8 32 (sumE e) ∧ Below w.heap.size w w' := by
  have hb0 := pnew w (.cells Tbl.toArray 42)
  have hb := hb0.trans ((pnew (w.alloc (.cells Tbl.toArray 42)) (.cells (evC x).toArray 90)).mono hb0.size)
  have hkT := (Blk.new w 42 Tbl).alloc (.cells (evC x).toArray 90)
  have hk0 := Blk.new (w.alloc (.cells Tbl.toArray 42)) 90 (evC x)
  rw [World.size_alloc] at hk0
  obtain ⟨y0, y1, y2, y3⟩ := four_ev hk0
  have HT := Lib.hid hkT
  clear hb0 hkT hk0
  have HB := Lib.hid hb
  have hE := h.below hb
  have HE := Lib.hid (And.intro hE.path hE.data)
  have hpn : x.pn ≤ 1000000 := by have := h.small.names; rw [h.path.len] at this; omega
  have hjn : (joinP e.path).size ≤ 1000000000 := by have := h.small.text; omega
  have htx : (textP e.path).size ≤ 901 := by
    unfold textP
    rw [ByteArray.size_append]
    have : slashB.size = 1 := rfl
    omega
  obtain ⟨tx, htxe⟩ : ∃ t, textP e.path = t := ⟨_, rfl⟩
  rw [htxe] at htx
  have hsz : tx.size = (bytB tx).length := (bytB_length tx).symm
  have HX : Hid (textP e.path = tx ∧ (bytB tx).length ≤ 1000) := Lib.hid ⟨htxe, by rw [bytB_length]; omega⟩
  obtain ⟨dg, hdg⟩ : ∃ d, sha Ks (framesOf [bytB tx, e.data]) = d := ⟨_, rfl⟩
  have hls := sha_length Ks (framesOf [bytB tx, e.data])
  rw [hdg] at hls
  have HG := Lib.hid hdg
  have HS : Hid (sumE e = dg.take 8) := Lib.hid (by unfold sumE; rw [htxe, hdg])
  clear h hE hb htxe hdg y1 y2
  obtain ⟨PA, pn, pc, k, m, DA, dn, dc⟩ := x
  go_enter Tryz.func46, Tryz.ntmps46
  go_wp2_with fail
  refine wp_hideQ ?_
  intro QQ hQQ
  refine wp_region_quickT [some 6, some 7, some 8, some 9, some 10, some 11, some 12, some 13, some 14, some 15, some 5] [isV (.agg Tbl.toArray), isV (.pointer (some ⟨w.heap.size + 1, 0, none⟩)), isV (.slice PA pn pc), isV (.string tx), dinV tx.size (bytB tx), isV (.pointer (some ⟨w.heap.size + 1, 3, none⟩)), isV (.slice DA dn dc), twoV tx.size (bytB tx) DA dn dc, dinV (framesOf [bytB tx, e.data]).length (framesOf [bytB tx, e.data]), isV (.agg (Vb dg).toArray), newA w.heap.size] 11 12 (by kernel_rfl) rfl rfl rfl rfl (by kernel_rfl) (by kernel_rfl) (by simp [isV.st, dinV.st, twoV.st, newA.st]) ?_ ?_
  · intro hq rz hz
    match rz, hz with
    | 0, _ =>
      refine StepL.val rfl [] (by decide +kernel) ?_
      intro v wx hR hd
      exact ⟨wanted_plain rfl _, _, _, x_load rfl (fill_off rfl rfl) (r_loadR (cs := Tbl) (by rw [Tbl_length]; kernel_rfl) ((HT.out.below hR HT.out.lt).range)), hR, Below.refl _ _, rfl⟩
    | 1, _ =>
      refine StepL.val rfl [] (by decide +kernel) ?_
      intro v wx hR hd
      exact ⟨wanted_plain rfl _, _, _, x_field rfl (fill_off rfl rfl) (r_field (off := 0) (by kernel_rfl)), hR, Below.refl _ _, rfl⟩
    | 2, _ =>
      refine StepL.val rfl [1] (by decide +kernel) ?_
      intro v wx hR hd
      have h1 : v 1 = _ := hd 1 (by simp)
      exact ⟨wanted_plain rfl _, _, _, x_load rfl (hq.at_ rfl h1) (r_load (by kernel_rfl) (pcell_below y0 hR)), hR, Below.refl _ _, rfl⟩
    | 3, _ =>
      refine StepL.call rfl [2] (by decide +kernel) ?_
      intro v wx hR hd
      have h2 : v 2 = _ := hd 2 (by simp)
      refine ⟨wanted_plain rfl _, 45, _, _, x_call rfl rfl (args_1 (hq.at_ rfl h2)) (by kernel_rfl) rfl, ?_⟩
      refine (rptext_any wx PA pn pc e.path (HE.out.1.below hR) (by omega)).mono ?_
      rintro en w' ⟨rfl, hW⟩
      exact ⟨.string tx, by rw [HX.out.1], hR.trans (hW.mono hR.size), hW, rfl⟩
    | 4, _ =>
      refine StepL.val rfl [3] (by decide +kernel) ?_
      intro v wx hR hd
      have h3 : v 3 = _ := hd 3 (by simp)
      have hb := Lib.bytesWorld_below wx 5 tx
      exact ⟨wanted_plain rfl _, xe_ex (x_conv rfl (hq.at_ rfl h3) (conv_str wx tx)) ⟨hR.trans (hb.mono hR.size), hb, _, _, rfl, din_conv wx tx (by omega)⟩⟩
    | 5, _ =>
      refine StepL.val rfl [] (by decide +kernel) ?_
      intro v wx hR hd
      exact ⟨wanted_plain rfl _, _, _, x_field rfl (fill_off rfl rfl) (r_field (off := 3) (by kernel_rfl)), hR, Below.refl _ _, rfl⟩
    | 6, _ =>
      refine StepL.val rfl [5] (by decide +kernel) ?_
      intro v wx hR hd
      have h5 : v 5 = _ := hd 5 (by simp)
      exact ⟨wanted_plain rfl _, _, _, x_load rfl (hq.at_ rfl h5) (r_load (by kernel_rfl) (pcell_below y3 hR)), hR, Below.refl _ _, rfl⟩
    | 7, _ =>
      refine StepL.val rfl [4, 6] (by decide +kernel) ?_
      intro v wx hR hd
      obtain ⟨A3, c3, h4, hd3⟩ : (dinV tx.size (bytB tx)) (v 4) wx := hd 4 (by simp)
      have h6 : v 6 = _ := hd 6 (by simp)
      have hb := pnew wx (.cells #[.slice A3 tx.size c3, .slice DA dn dc] 26)
      exact ⟨wanted_plain rfl _, xe_ex (x_slice rfl (pairs_2 (hq.at_ rfl h4) (hq.at_ rfl h6)) (slice_two wx _ _ _ _ _ _)) ⟨hR.trans (hb.mono hR.size), hb, _, _, _, rfl, Blk.new wx 26 [.slice A3 tx.size c3, .slice DA dn dc], hd3.below hb⟩⟩
    | 8, _ =>
      refine StepL.call rfl [7] (by decide +kernel) ?_
      intro v wx hR hd
      obtain ⟨p6, A6, c6, h7, hk6, hd6⟩ : (twoV tx.size (bytB tx) DA dn dc) (v 7) wx := hd 7 (by simp)
      refine ⟨wanted_plain rfl _, 84, _, _, x_call rfl rfl (args_1 (hq.at_ rfl h7)) (by kernel_rfl) rfl, ?_⟩
      refine (frame_ref_1k wx _ 2 2 [bytB tx, e.data] (txtsN_two hk6 hd6 (HE.out.2.below hR) (Nat.le_refl _)) (by omega) (by have := HX.out.2; intro z hz; simp at hz; rcases hz with rfl | rfl <;> omega)).mono ?_
      rintro en w' ⟨u, rfl, ho, hW⟩
      obtain ⟨A, c, rfl⟩ := own_slice ho
      exact ⟨_, rfl, hR.trans (hW.mono hR.size), hW, A, c, rfl, din_own ho⟩
    | 9, _ =>
      refine StepL.call rfl [0, 8] (by decide +kernel) ?_
      intro v wx hR hd
      have h0 : v 0 = _ := hd 0 (by simp)
      obtain ⟨A8, c8, h8, hd8⟩ : (dinV (framesOf [bytB tx, e.data]).length (framesOf [bytB tx, e.data])) (v 8) wx := hd 8 (by simp)
      refine ⟨wanted_plain rfl _, 83, _, _, x_call rfl rfl (args_2 (hq.at_ rfl h0) (hq.at_ rfl h8)) (by kernel_rfl) rfl, ?_⟩
      refine (sum_tbl wx A8 _ c8 (framesOf [bytB tx, e.data]) ⟨hd8.txt (Nat.le_refl _), fun ha => by have h1 := hd8.nil ha; have h2 := hd8.cap; omega⟩ (by have := frames_small_1k [bytB tx, e.data] (by have := HX.out.2; intro z hz; simp at hz; rcases hz with rfl | rfl <;> omega); simp only [List.length_cons, List.length_nil] at this; omega)).mono ?_
      rintro en w' ⟨rfl, hW⟩
      exact ⟨.agg (Vb dg).toArray, by rw [HG.out], hR.trans (hW.mono hR.size), hW, rfl⟩
    | 10, _ =>
      refine StepL.val rfl [] (by decide +kernel) ?_
      intro v wx hR hd
      have hb := pnew wx (.cells (List.replicate 32 (Value.int .u8 0)).toArray 154)
      exact ⟨wanted_plain rfl _, xe_ex (x_alloc rfl (alloc_dg wx)) ⟨hR.trans (hb.mono hR.size), hb, _, rfl, Nat.le_trans HB.out.size hR.size, Blk.new wx 154 (List.replicate 32 (.int .u8 0))⟩⟩
    | rz + 11, h => omega
  · intro v wx hR hV
    have h9 : v 9 = _ := hV 9 (by omega)
    obtain ⟨g8, h8, hg8, hk8⟩ : newA w.heap.size (v 10) wx := hV 10 (by omega)
    simp only [fillR, Act.put, List.setIfInBounds_toArray, List.set_cons_zero, List.set_cons_succ, List.drop_succ_cons, List.drop_zero, h9, h8]
    have HR := Lib.hid (And.intro (HB.out.trans (hR.mono HB.out.size)) (And.intro hk8 hg8))
    have hs8 := slice8
    clear hV hR h9 h8 y0 y3 hk8 hg8
    go_wp2_with (refine wpList_store_blk rfl 154 (.tmp 5) (.tmp 15) rfl g8 0 (Vb dg) rfl rfl HR.out.2.1 (by simp [Vb_length, hls]) (info31.trans (by simp [Vb_length, hls])) (Vb_oneCell _) ?_; intro w5 hA hO; rw [over_whole (by simp [Vb_length, hls])] at hA; have H5 := Lib.hid (And.intro hA (HR.out.1.trans (hO.below (B := w.heap.size) HR.out.1.size (by intro q hq; simp at hq; subst hq; have := HR.out.2.2; have := HB.out.size; omega)))); clear hA hO)
    go_ret
    refine ⟨some ⟨g8, 0, none⟩, rfl, ?_, H5.out.2⟩
    rw [HS.out]
    exact ⟨by rw [List.length_take, hls]; rfl, by omega, by omega, (fun ha => by cases ha), fun _ => ⟨g8, 0, rfl, H5.out.1.lt, fun j u hu => by
      rw [Nat.zero_add, H5.out.1.cell]
      rw [Vb_get, List.getElem?_take] at hu
      rw [Vb_get]
      split at hu
      · exact hu
      · cases hu⟩⟩
end Go.Proofs.YtdnaiiagblcohaaGreatDoor
end
