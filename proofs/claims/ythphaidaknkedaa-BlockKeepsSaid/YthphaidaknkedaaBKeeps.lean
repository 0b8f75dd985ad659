/-
  BlockKeeps' walk: whatever a crash keeps, each sector is as it was laid, or as one of its waiting writes. Conditions: the rows, the writes and the places lie at their slices' addresses.
-/
import Derived.Test.YthphaidaknkedaaBKept
import Derived.Test.YthphaidaknkedaaBKnown
import Derived.PlainAid
import Derived.Deep.DeepCutAuto
import Derived.Deep.CutBlock
import Derived.Deep.RegionHeld3
namespace Go.Proofs.Ythphaidaknkedaa
open Go.RowKit

set_option maxRecDepth 100000 in
set_option maxHeartbeats 2000000 in
theorem keeps_walk (w : World) (A0 : Option Addr) (n0 c0 : Nat) (l0 : List GoRow) (A1 : Option Addr) (n1 c1 : Nat) (l1 : List GoAct) (A2 : Option Addr) (n2 c2 : Nat) (ks : List Int)
    (hn0 : l0.length = n0) (hb0 : n0 ≤ 9223372036854775807) (h0 : RowsAt w.heap.size w A0 l0) (hn1 : l1.length = n1) (hb1 : n1 ≤ 9223372036854775807) (h1 : ActsAt w.heap.size w A1 l1)
    (hn2 : ks.length = n2) (hb2 : n2 ≤ c2) (hc2 : c2 ≤ 9223372036854775807) (h2 : IntsAt w A2 ks) (h2b : ∀ ad, A2 = some ad → 0 < n2 → ad.block < w.heap.size) :
    Calls Try.prog 4 #[.slice A0 n0 c0, .slice A1 n1 c1, .slice A2 n2 c2] w fun e w' => e = .returned (.bool true) ∧ Below w.heap.size w w' := by
  have HN := Lib.hid (And.intro hn0 (And.intro hn1 hn2))
  have HA0 := Lib.hid h0
  have HA1 := Lib.hid h1
  have HA2 := Lib.hid (And.intro h2 h2b)
  clear hn0 hn1 hn2 h0 h1 h2 h2b
  go_enter Try.func4, Try.ntmps4
  go_wp2_with fail
  refine (new_eight w).mono ?_
  rintro e w1 ⟨D, L, rfl, hl1, hb1'⟩
  have HR1 := Lib.hid (runs_start hl1 hb1')
  clear hl1 hb1'
  go_upto_block 0 with fail
  go_cut [] (fun wx => ∃ s : St, Runs w.heap.size D L w 0 8 s wx)
  case first =>
    go_wp2_with fail
    go_loopw [9] (fun iv wr => ∃ (i : Nat) (s : St), i ≤ n0 ∧ i ≤ 8 ∧ iv = .int .i64 i ∧ Runs w.heap.size D L w 0 i s wr) (fun iv _ => n0 - (intOf iv).toNat)
    case atStart => exact ⟨0, _, Nat.zero_le _, Nat.zero_le _, rfl, HR1.out⟩
    case round =>
      clear HR1
      obtain ⟨i, s, hin, hi8, rfl, hrel⟩ := hrel
      have HR := Lib.hid hrel
      clear hrel
      by_cases hlt : i < n0
      · by_cases hlt2 : i < 8
        · obtain ⟨r, hr⟩ : ∃ r, l0[i]? = some r := ⟨_, List.getElem?_eq_getElem (by have := HN.out; omega)⟩
          obtain ⟨b, o, rfl, hblt, k0, hrest⟩ := (HA0.out.below HR.out.below) i r hr
          have HX := Lib.hid hrest
          clear hrest
          go_wp2_with fail
          refine (full_walk wr r.A r.n r.c r.bs HX.out.1 HX.out.2.1 HX.out.2.2.1).mono ?_
          rintro e w2 ⟨rfl, hf2, hb2⟩
          have HR2 := Lib.hid (HR.out.below_ hb2)
          have HF2 := Lib.hid hf2
          clear hf2 hb2
          go_wp2_with fail
          have hw3 := write_live w.heap.size w2 D L s i (full r.bs) (some ⟨wr.heap.size, 0, none⟩) 64 64 HR2.out.live HR2.out.below.size (full_length _) (fun _ => ⟨_, rfl, by have := HR.out.live.lt; simp; omega, blk_cells HF2.out⟩) (by have := HR.out.waits; omega) (by have := HR.out.wr_; omega)
          rw [HR.out.write_eq hlt2] at hw3
          refine hw3.mono ?_
          clear hw3
          rintro e w3 ⟨rfl, hl3, hs3⟩
          have HR3 := Lib.hid (HR2.out.wrote hl3 hs3.below)
          clear hl3 hs3
          go_wp2_with fail
          go_roundw
          case rel => exact ⟨i + 1, _, by omega, by omega, by go_num, HR3.out⟩
          case measure => simp [intOf]; omega
        · obtain rfl : i = 8 := by omega
          go_wp2_with fail
          go_meet
          exact ⟨s, HR.out⟩
      · obtain rfl : i = n0 := by omega
        have hdl : decide ((i : Int) < i) = false := by simp
        go_wp2_with fail
        go_meet
        exact ⟨s, HR.out.more (Nat.le_refl _) hi8⟩
  case rest =>
    clear HR1 HA0
    obtain ⟨s, hr⟩ := hcut
    have HR := Lib.hid hr
    clear hr
    go_wp2_with fail
    have hw0 := flush_live w.heap.size wc D L s HR.out.live HR.out.below.size (by have := HR.out.fl; omega)
    rw [HR.out.flush_eq] at hw0
    refine hw0.mono ?_
    clear hw0
    rintro e w2 ⟨rfl, hl2, hs2⟩
    have hr2 := HR.out.flushed hl2 hs2.below
    clear hl2 hs2
    have hcalm : ({ s with left := nextLeft s.armed s.left, laid := layAll s.laid s.waits, waits := [], fl := s.fl + 1 } : St).waits = [] := rfl
    generalize ({ s with left := nextLeft s.armed s.left, laid := layAll s.laid s.waits, waits := [], fl := s.fl + 1 } : St) = s1 at hr2 hcalm
    have HR2 := Lib.hid (And.intro hr2 hcalm)
    clear hr2 hcalm HR
    go_wp2_with fail
    refine (copy_any w.heap.size w2 D L _ s1 HR2.out.1.live.choose_spec).mono ?_
    rintro e w3 ⟨D2, L2, lc2, tl2, rfl, hl3, hb3⟩
    have hq : ({ s1 with lc := lc2, tl := tl2 } : St).waits = [] ∧ ({ s1 with lc := lc2, tl := tl2 } : St).laid = s1.laid := ⟨HR2.out.2, rfl⟩
    generalize ({ s1 with lc := lc2, tl := tl2 } : St) = s2 at hl3 hq
    have HC3 := Lib.hid (And.intro hl3 hb3)
    have HQ := Lib.hid hq
    clear hl3 hb3 hq
    go_wp2_with fail
    refine (laid_below w.heap.size w3 D L s1 512 (HR2.out.1.live.below HC3.out.2) (by have := HR2.out.1.live.good.size; have := HR2.out.1.n; omega)).mono ?_
    rintro e w4 ⟨gw, cw, rfl, hcw, hwas, hb4⟩
    have HW4 := Lib.hid (And.intro hwas hb4)
    clear hwas hb4
    go_upto_region 15 with fail
    go_cut [2] (fun s2 wx => ∃ (m c : Nat), m ≤ 30 ∧ m ≤ n2 ∧ s2 = .slice A2 m c ∧ wx = w4)
    case first =>
      go_wp2_with fail
      go_meet
      exact ⟨_, _, by omega, by omega, rfl, rfl⟩
    case rest =>
      obtain ⟨m, c, hm30, hmn, rfl, hwc⟩ := hcut
      subst hwc
      have hkm : (ks.take m).length = m := by have := HN.out; rw [List.length_take]; omega
      have HKM := Lib.hid hkm
      clear hkm
      have hik : IntsAt w A2 (ks.take m) := HA2.out.1.first m
      have hbk : ∀ ad, A2 = some ad → 0 < (ks.take m).length → ad.block < w.heap.size := fun ad e h => HA2.out.2 ad e (by have := HKM.out; omega)
      have HIK := Lib.hid (And.intro hik hbk)
      clear hik hbk HA2
      go_wp2_with fail
      have hb24 : Below w2.heap.size w2 wc := HC3.out.2.trans (HW4.out.2.mono HC3.out.2.size)
      have hw5 := crash_live w2.heap.size wc D2 L2 s2 A2 m c (ks.take m) (HC3.out.1.below HW4.out.2) hb24.size HKM.out (by omega) (HIK.out.1.below (HR2.out.1.below.trans (hb24.mono HR2.out.1.below.size)) HIK.out.2)
      rw [crash_calm _ HQ.out.1] at hw5
      refine hw5.mono ?_
      clear hw5
      rintro e w5 ⟨rfl, hl5, hs5⟩
      have hL2 := HC3.out.1.lt.2.2.2
      have hLw : L < w3.heap.size := by have := HR2.out.1.live.lt; have := HC3.out.2.size; omega
      have HW5 := Lib.hid (HW4.out.1.step hs5 hL2)
      have HB5 := Lib.hid (hb24.trans hs5.below)
      have HL5 := Lib.hid hl5
      clear hl5 hs5 hL2 hb24 HC3 HW4
      have hsz : s1.laid.length = 512 := by have := HR2.out.1.live.good.size; have := HR2.out.1.n; omega
      have HSZ := Lib.hid hsz
      clear hsz
      go_wp2_with fail
      refine (laid_below w2.heap.size w5 D2 L2 _ 512 HL5.out (by show s2.laid.length = 512; rw [HQ.out.2, HSZ.out])).mono ?_
      rintro e w6 ⟨g6, c6, rfl, hc6, hx6, hb6⟩
      have HX6 := Lib.hid (show HasBytes w5.heap.size w6 (.slice (some ⟨g6, 0, none⟩) 512 c6) s1.laid from by have h := hx6; rw [show ({ s2 with on := false, laid := s2.laid, waits := [] } : St).laid = s1.laid from HQ.out.2] at h; exact h)
      have HW6 := Lib.hid (HW5.out.below hb6)
      have HB6 := Lib.hid (HB5.out.trans (hb6.mono HB5.out.size))
      clear hx6 hb6 hc6 HW5 HB5 HL5
      go_wp2_with fail
      refine (same_has w2.heap.size L w6 _ _ _ _ 512 s1.laid s1.laid true HSZ.out (by omega) HX6.out HW6.out (by simp)).mono ?_
      rintro e w7 ⟨rfl, hs7, _⟩
      have HB7 := Lib.hid (HB6.out.trans hs7.below)
      have hwas7 : HasBytes w3.heap.size w7 (.slice (some ⟨gw, 0, none⟩) 512 cw) s1.laid := HW6.out.step hs7 hLw
      have hm7 : Marks w.heap.size D L w3.heap.size w 0 l1 s1.laid (.slice (some ⟨gw, 0, none⟩) 512 cw) s1 w7 := ⟨HR2.out.1.below_ HB7.out, rfl, hwas7, fun p hp => by rw [HR2.out.2] at hp; simp at hp⟩
      have HM7 := Lib.hid hm7
      clear hm7 hwas7 hs7 HB7 HX6 HW6 HB6 HR2 HQ
      obtain ⟨las, hlas⟩ : ∃ las, s1.laid = las := ⟨_, rfl⟩
      rw [hlas] at HM7 HSZ
      clear hlas
      go_upto_block 2 with fail
      go_cut [] (fun wx => ∃ s : St, Marks w.heap.size D L w3.heap.size w 30 l1 las (.slice (some ⟨gw, 0, none⟩) 512 cw) s wx)
      case first =>
        go_wp2_with fail
        go_loopw [12] (fun iv wr => ∃ (i : Nat) (s : St), i ≤ n1 ∧ i ≤ 30 ∧ iv = .int .i64 i ∧ Marks w.heap.size D L w3.heap.size w i l1 las (.slice (some ⟨gw, 0, none⟩) 512 cw) s wr) (fun iv _ => n1 - (intOf iv).toNat)
        case atStart => exact ⟨0, _, Nat.zero_le _, Nat.zero_le _, rfl, HM7.out⟩
        case round =>
          clear HM7
          obtain ⟨i, s, hin, hi8, rfl, hrel⟩ := hrel
          have HR := Lib.hid hrel
          clear hrel
          by_cases hlt : i < n1
          · by_cases hlt2 : i < 30
            · obtain ⟨a, ha⟩ : ∃ a, l1[i]? = some a := ⟨_, List.getElem?_eq_getElem (by have := HN.out; omega)⟩
              have HAa := Lib.hid ha
              obtain ⟨b, o, rfl, hblt, k0, k1, k2, k3, hrest⟩ := (HA1.out.below HR.out.run.below) i a ha
              have HX := Lib.hid hrest
              obtain ⟨k, hk8, hno⟩ := no_eight a.no
              have HK := Lib.hid (And.intro hk8 hno)
              clear hrest ha k0 k3
              have HNW := Lib.hid (wrap_same hno)
              go_upto_region 21 with fail
              have HW := Lib.hid (fun (w2 : World) (hr2 : Runs w.heap.size D L w 1 (i + 8) s w2) (hf2 : Blk w2 wr.heap.size 5 (U (full a.bs))) => write_live w.heap.size w2 D L s k (full a.bs) (some ⟨wr.heap.size, 0, none⟩) 64 64 hr2.live hr2.below.size (full_length _) (fun _ => ⟨_, rfl, by have := HR.out.run.live.lt; simp; omega, blk_cells hf2⟩) (by have := hr2.waits; omega) (by have := hr2.wr_; omega))
              go_region_held3 (fun w' => w'.cell? ⟨b, o + i * 4 + 1, none⟩ = some (.int .i64 a.no) ∧ w'.cell? ⟨b, o + i * 4 + 2, none⟩ = some (.slice a.bA a.bn a.bc)) (first | exact ⟨e1, e2⟩ | exact ⟨d1, d2⟩ | exact ⟨k1, k2⟩)
                (first
                  | (go_at_call 11; refine (full_walk wr.drew a.bA a.bn a.bc a.bs HX.out.1 HX.out.2.1 HX.out.2.2.1).mono ?_; rintro e w2 ⟨rfl, hf2, hb2⟩; have d1 := (hb2.cell (p := ⟨b, o + i * 4 + 1, none⟩) (Nat.lt_of_lt_of_le hblt HR.out.run.below.size)).trans k1; have d2 := (hb2.cell (p := ⟨b, o + i * 4 + 2, none⟩) (Nat.lt_of_lt_of_le hblt HR.out.run.below.size)).trans k2; have HF2 := Lib.hid (And.intro hf2 (show Below wr.heap.size wr w2 from ⟨hb2.os, hb2.tape, hb2.output, hb2.size, hb2.block⟩)); clear hf2 hb2)
                  | (go_at_call 12; have hw3 := HW.out w2 (HR.out.run.below_ (HF2.out.2)) HF2.out.1; rw [HR.out.run.write_eq HK.out.1] at hw3; rw [HNW.out]; refine hw3.mono ?_; clear hw3; rintro e w3 ⟨rfl, hl3, hs3⟩; have e1 := (hs3.below.cell (p := ⟨b, o + i * 4 + 1, none⟩) hblt).trans d1; have e2 := (hs3.below.cell (p := ⟨b, o + i * 4 + 2, none⟩) hblt).trans d2; have HL3 := Lib.hid (And.intro hl3 hs3); clear hl3 hs3))
              go_wp2_with fail
              go_roundw
              case rel => exact ⟨i + 1, _, by omega, by omega, by go_num, HR.out.wrote HAa.out HK.out.2 hLw HL3.out.1 ((Step.of_below HR.out.run.below.size HF2.out.2).trans HL3.out.2)⟩
              case measure => simp [intOf]; omega
            · obtain rfl : i = 30 := by omega
              go_wp2_with fail
              go_meet
              exact ⟨s, HR.out⟩
          · obtain rfl : i = n1 := by omega
            have hdl : decide ((i : Int) < i) = false := by simp
            go_wp2_with fail
            go_meet
            exact ⟨s, HR.out.more (by omega)⟩
      case rest =>
        clear HM7
        obtain ⟨s, hm⟩ := hcut
        have HM := Lib.hid hm
        clear hm
        go_wp2_with fail
        have hw8 := crash_live w.heap.size wc D L s A2 m c (ks.take m) HM.out.run.live HM.out.run.below.size HKM.out (by omega) (HIK.out.1.below HM.out.run.below HIK.out.2)
        refine hw8.mono ?_
        clear hw8
        rintro e w8 ⟨rfl, hl8, hs8⟩
        have hwas8 := HM.out.was.step hs8 hLw
        have HL8 := Lib.hid (And.intro hl8 (And.intro (HM.out.run.below.trans hs8.below) hwas8))
        clear hl8 hs8 hwas8
        go_wp2_with fail
        refine (laid_below w.heap.size w8 D L _ 512 HL8.out.1 (by have := HL8.out.1.good.size; have h8 := HM.out.run.n; show (layAll s.laid (kept (ks.take m) s.waits)).length = 512; rw [layAll_length _ _ HM.out.run.live.good.size (fun p hp => HM.out.run.live.good.sec p (kept_mem hp)), h8])).mono ?_
        rintro e w9 ⟨gx, cx, rfl, hcx, hx9, hb9⟩
        have hx9' : HasBytes w8.heap.size w9 (.slice (some ⟨gx, 0, none⟩) 512 cx) (layAll las (kept (ks.take m) s.waits)) := by have h := HM.out.laid; rw [← h]; exact hx9
        have hlw := HL8.out.2.2.below hb9
        have HX9 := Lib.hid hx9'
        have HW9 := Lib.hid hlw
        have HL9 := Lib.hid (And.intro (HL8.out.1.below hb9) (HL8.out.2.1.trans (hb9.mono HL8.out.2.1.size)))
        clear hx9 hb9 hx9' hlw HL8
        go_wp2_with fail
        have hok := fun (j : Nat) (hj : j < 8) (i : Nat) (hi : l1.length ≤ i ∨ 30 ≤ i) => okB_all HM.out (ks.take m) hj hi
        obtain ⟨nl, hnl⟩ : ∃ nl, layAll las (kept (ks.take m) s.waits) = nl := ⟨_, rfl⟩
        rw [hnl] at hok HX9
        have HOK := Lib.hid hok
        have HNL := Lib.hid HX9.out.cap_
        clear hok hnl HM HIK HKM
        go_loopg [14] 8 (fun g s14 wx => ∃ j : Nat, j ≤ 8 ∧ g = 8 - j ∧ s14 = .int .i64 j ∧ Below w9.heap.size w9 wx)
        case atStart => exact ⟨0, by omega, rfl, rfl, Below.refl _ _⟩
        case round =>
          obtain ⟨j, hj8, rfl, rfl, hb10⟩ := hrel
          have HB10 := Lib.hid hb10
          have Hx10 := Lib.hid (And.intro (HasBytes.upto HX9.out hb10) (HasBytes.upto HW9.out hb10))
          clear hb10
          by_cases hjl : j < 8
          · go_wp2_with fail
            have hX := (Hx10.out).1.sector j
            have hY := (Hx10.out).2.sector j
            refine (same_walk wr _ _ 64 64 _ _ (sec nl j) (sec las j) (sec_length (n := 8) HNL.out hjl) (sec_length (n := 8) HSZ.out hjl) (by omega) hX hY).mono ?_
            rintro e w11 ⟨rfl, q, rfl⟩
            have HB11 := Lib.hid (HB10.out.trans (c := wr.drewN q) ⟨rfl, rfl, rfl, Nat.le_refl _, fun _ _ => rfl⟩)
            have HXL := Lib.hid (sec_length (n := 8) HNL.out hjl)
            have HX11 := Lib.hid (HasBytes.below Hx10.out.1 (w' := wr.drewN q) ⟨rfl, rfl, rfl, Nat.le_refl _, fun _ _ => rfl⟩)
            have hBase : ∃ base, (sec nl j == sec las j) = base := ⟨_, rfl⟩
            have hok := HOK.out j hjl
            obtain ⟨base, hbase⟩ := hBase
            rw [hbase] at hok ⊢
            have HOKj := Lib.hid hok
            clear hX hY hok hbase HB10 Hx10
            go_upto_block 6 with fail
            go_cut [16] (fun v wx => v = .bool true ∧ Below w9.heap.size w9 wx)
            case first =>
              go_wp2_with fail
              generalize wr.drewN q = w12 at *
              go_loopg [16, 17] n1 (fun g s16 s17 wx => ∃ i : Nat, i ≤ n1 ∧ i ≤ 30 ∧ g = n1 - i ∧ s16 = .bool (okB l1 (sec nl j) j base i) ∧ s17 = .int .i64 i ∧ Below w12.heap.size w12 wx)
              case atStart => exact ⟨0, Nat.zero_le _, Nat.zero_le _, rfl, by rw [okB_zero], rfl, Below.refl _ _⟩
              case round =>
                obtain ⟨i, hin, hi30, rfl, rfl, rfl, hb13⟩ := hrel
                have HB13 := Lib.hid hb13
                clear hb13
                by_cases hlt : i < n1
                · by_cases hlt2 : i < 30
                  · obtain ⟨a, ha⟩ : ∃ a, l1[i]? = some a := ⟨_, List.getElem?_eq_getElem (by have := HN.out; omega)⟩
                    have HAa := Lib.hid ha
                    obtain ⟨b, o, rfl, hblt, k0, k1, k2, k3, hrest⟩ := (HA1.out.below (HL9.out.2.trans ((HB11.out.trans (HB13.out.mono HB11.out.size)).mono HL9.out.2.size))) i a ha
                    have HX := Lib.hid hrest
                    obtain ⟨k, hk8, hno⟩ := no_eight a.no
                    have HK := Lib.hid (And.intro hk8 hno)
                    clear hrest ha k0 k3
                    cases hb : okB l1 (sec nl j) j base i
                    · by_cases hkj : k = j
                      · subst hkj
                        have HO := Lib.hid hb
                        clear hb
                        go_wp2_with fail
                        refine (full_walk wr a.bA a.bn a.bc a.bs HX.out.1 HX.out.2.1 HX.out.2.2.1).mono ?_
                        rintro e w14 ⟨rfl, hf14, hb14⟩
                        have hx14 := (HX11.out.below HB13.out).below hb14
                        have hX := hx14.sector k
                        have HB14 := Lib.hid (HB13.out.trans (hb14.mono HB13.out.size))
                        go_wp2_with fail
                        refine (same_walk w14 _ _ 64 64 _ _ (sec nl k) (full a.bs) HXL.out (full_length _) (by omega) hX (fun _ => ⟨_, rfl, fun i x hx => blk_cells hf14 i _ (by rw [U_get, hx]; rfl)⟩)).mono ?_
                        rintro e w15 ⟨rfl, q2, rfl⟩
                        clear hX hx14 hf14 hb14
                        rw [← okB_hit HAa.out HO.out HK.out.2]
                        go_wp2_with fail
                        go_roundg (n1 - (i + 1))
                        case measure => omega
                        case rel => exact ⟨i + 1, by omega, by omega, rfl, rfl, by go_num, HB14.out.trans ⟨rfl, rfl, rfl, Nat.le_refl _, fun _ _ => rfl⟩⟩
                      · have hkd : ((k : Int) == (j : Int)) = false := by rw [beq_eq_false_iff_ne]; omega
                        have hsk := okB_skip HAa.out hb (by rw [hno]; omega)
                        have HSK := Lib.hid hsk
                        clear hsk hb
                        go_wp2_with fail
                        go_roundg (n1 - (i + 1))
                        case measure => omega
                        case rel => exact ⟨i + 1, by omega, by omega, rfl, by rw [HSK.out], by go_num, HB13.out⟩
                    · have HSK := Lib.hid (okB_mono HAa.out hb)
                      clear hb
                      go_wp2_with fail
                      go_roundg (n1 - (i + 1))
                      case measure => omega
                      case rel => exact ⟨i + 1, by omega, by omega, rfl, by rw [HSK.out], by go_num, HB13.out⟩
                  · obtain rfl : i = 30 := by omega
                    have ht := HOKj.out 30 (.inr (Nat.le_refl _))
                    rw [ht]
                    go_wp2_with fail
                    go_meet
                    exact ⟨rfl, HB11.out.trans (HB13.out.mono HB11.out.size)⟩
                · obtain rfl : i = n1 := by omega
                  have hdl : decide ((i : Int) < i) = false := by simp
                  have ht := HOKj.out i (.inl (by have := HN.out; omega))
                  rw [ht]
                  go_wp2_with fail
                  go_meet
                  exact ⟨rfl, HB11.out.trans (HB13.out.mono HB11.out.size)⟩
            case rest =>
              obtain ⟨rfl, hb14⟩ := hcut
              have HB14 := Lib.hid hb14
              clear hb14
              go_wp2_with fail
              go_roundg (8 - (j + 1))
              case measure => omega
              case rel => exact ⟨j + 1, by omega, rfl, by go_num, HB14.out⟩
          · obtain rfl : j = 8 := by omega
            go_wp2_with fail
            refine (known_walk wr).mono ?_
            rintro e w15 ⟨rfl, hb15⟩
            have hb9 : Below w9.heap.size w9 w15 := HB10.out.trans (hb15.mono HB10.out.size)
            have hBB : Below w.heap.size w w15 := HL9.out.2.trans (hb9.mono HL9.out.2.size)
            have HBB := Lib.hid hBB
            obtain ⟨wv, hd⟩ := HL9.out.1.below hb9
            obtain ⟨A, cc, rfl, _⟩ := hd.form
            obtain ⟨d0, d1, d2, d3, d4, d5, d6⟩ := dk_cells hd.disk
            have x0 : w15.cell? ⟨D, 0, none⟩ = some (.bool false) := d0
            have x4 : w15.cell? ⟨D, 4, none⟩ = some (.slice A 0 cc) := d4
            clear hd d0 d1 d2 d3 d4 d5 d6 hb15 hb9 hBB HL9
            go_wp2_with fail
            refine (waiting_any w15 D 0 cc A x4).mono ?_
            rintro e w16 ⟨rfl, rfl⟩
            go_wp2_with fail
            refine (on_any w15 D false x0).mono ?_
            rintro e w16 ⟨rfl, rfl⟩
            go_wp2_with fail
            go_ret
            exact ⟨rfl, HBB.out⟩

end Go.Proofs.Ythphaidaknkedaa
